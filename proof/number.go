package proof

import (
	"slices"

	"algorist/api"
	"algorist/integer"
)

func before(n api.Int) api.Int { return integer.Sub(n, integer.Of(1)) }

func after(n api.Int) api.Int { return integer.Add(n, integer.Of(1)) }

// quotient returns a / b, for b other than 0.
func quotient(a, b api.Int) api.Int {
	q, _, _ := integer.DivMod(a, b)
	return q
}

// without divides a, which is positive, by q, which is greater than 1, as long as it is a multiple of it.
func without(a, q api.Int) api.Int {
	for {
		next, r, _ := integer.DivMod(a, q)
		if integer.Sign(r) != 0 {
			return a
		}
		a = next
	}
}

// remainder returns a modulo d, which is in the range 1 to 2^32 - 1; a is not negative.
func remainder(a api.Int, d uint64) uint64 {
	var r uint64
	for i := len(a.Mag) - 1; i >= 0; i-- {
		r = (r<<32 | uint64(a.Mag[i])) % d
	}
	return r
}

func isCoprime(a, b api.Int) bool { return isOne(integer.Gcd(a, b)) }

// all reports whether a condition holds for all numbers of a list.
func all(l []api.Int, holds func(api.Int) bool) bool {
	return !slices.ContainsFunc(l, func(a api.Int) bool { return !holds(a) })
}

func isZero(a api.Int) bool { return integer.Sign(a) == 0 }

func isOne(a api.Int) bool { return integer.Cmp(a, integer.Of(1)) == 0 }

func isOdd(a api.Int) bool { return integer.Sign(a) != 0 && a.Mag[0]&1 == 1 }

// isResidue reports whether a is in the range 0 to m - 1.
func isResidue(a, m api.Int) bool {
	return integer.Sign(a) >= 0 && integer.Cmp(a, m) < 0
}
