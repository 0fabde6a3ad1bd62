package compose

import (
	"algorist/api"
	"algorist/integer"
	"algorist/modular"
	"algorist/quadratic"
)

const primesEnd = 1 << 20

// Prime returns the reduced form of a class that represents a prime.
func Prime(d api.Int, p int) (api.Form, api.Errno) {
	if _, e := quadratic.Principal(d); e != api.OK || integer.Sign(d) > 0 {
		return api.Form{}, api.ErrDisc
	}
	if p < 2 || p >= primesEnd || leastDivisor(p, 2) < p {
		return api.Form{}, api.ErrPrime
	}
	f, ok := overPrime(d, integer.Of(int64(p)))
	if !ok || !quadratic.Primitive(f) {
		return api.Form{}, api.ErrNone
	}
	return reduced(f), api.OK
}

// overPrime returns the form (p, b, c) of the discriminant d with the least b that is not negative, if there is one.
// Such a b is a root of d modulo p. If r is the least root, p - r is the next one, and no others are needed: an odd p has one of them that is even or odd as d is, and for p = 2 all greater numbers have the squares of these modulo 8.
func overPrime(d, p api.Int) (api.Form, bool) {
	r, e := modular.Sqrt(d, p)
	if e != api.OK {
		return api.Form{}, false
	}
	m := integer.Mul(integer.Of(4), p)
	for _, b := range []api.Int{r, integer.Sub(p, r)} {
		c, rest, _ := integer.DivMod(integer.Sub(integer.Mul(b, b), d), m)
		if integer.Sign(rest) == 0 {
			return api.Form{A: p, B: b, C: c}, true
		}
	}
	return api.Form{}, false
}
