package compose

import (
	"algorist/api"
	"algorist/integer"
)

// Order returns the order of a class whose h-th power is principal.
func Order(f api.Form, h int) (int, api.Errno) {
	if e := check(f); e != api.OK {
		return 0, e
	}
	raise := powers(f)
	if h < 1 || !isPrincipal(raise(f, integer.Of(int64(h)))) {
		return 0, api.ErrArg
	}
	n, left := 1, h // the order is a multiple of n, and divides n left
	x := reduced(f) // the n-th power
	for q := 2; !isPrincipal(x); {
		q = leastDivisor(left, q)
		left = without(left, q)
		prime := integer.Of(int64(q))
		y := raise(x, integer.Of(int64(left))) // its order is the power of q in that of x
		for !isPrincipal(y) {
			x, y = raise(x, prime), raise(y, prime)
			n *= q
		}
	}
	return n, api.OK
}

// leastDivisor returns the least divisor of n that is greater than 1, where n is, too; from is 2, or an odd number such that there are no less divisors.
func leastDivisor(n, from int) int {
	for d := from; d <= n/d; d += 1 + d%2 {
		if n%d == 0 {
			return d
		}
	}
	return n
}

// without divides n by q as often as possible.
func without(n, q int) int {
	for n%q == 0 {
		n /= q
	}
	return n
}
