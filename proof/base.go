package proof

import (
	"algorist/api"
	"algorist/integer"
	"algorist/modular"
)

// The conditions of this file are those of the chapter's steps; checks and searches use the same ones.

// isEnoughForMinus reports whether f, a product of powers that divide n - 1, is great enough (Pocklington).
func isEnoughForMinus(f, n api.Int) bool {
	return integer.Cmp(integer.Mul(f, f), n) > 0
}

// isEnoughForPlus reports whether f, a product of powers that divide n + 1, is great enough (Morrison).
func isEnoughForPlus(f, n api.Int) bool {
	f = before(f)
	return integer.Cmp(integer.Mul(f, f), n) > 0
}

// isEnoughForCurve reports whether sqrt(q) > n^(1/4) + 1, so that a point of the order q is on no curve modulo a divisor of n up to sqrt(n) (Goldwasser and Kilian).
func isEnoughForCurve(q, n api.Int) bool {
	next := after(q)
	four := integer.Mul(integer.Of(4), q)
	d := integer.Sub(integer.Mul(next, next), integer.Add(n, four))
	bound := integer.Mul(integer.Mul(integer.Of(4), four), n)
	return integer.Sign(d) > 0 && integer.Cmp(integer.Mul(d, d), bound) > 0
}

// isBaseForMinus reports whether b^(n-1) is 1 modulo n, and b^((n-1)/q) - 1 is coprime to n.
func isBaseForMinus(n, q, b api.Int) bool {
	power, _ := modular.Pow(b, quotient(before(n), q), n)
	whole, _ := modular.Pow(power, q, n)
	return isOne(whole) && isCoprime(before(power), n)
}

// isBaseForPlus reports whether p^2 - 4 q is no square modulo n by its symbol, U(n + 1) is 0, and U((n + 1)/r) is coprime to n for all primes r of a list.
func isBaseForPlus(n api.Int, primes []api.Int, p, q api.Int) bool {
	d := integer.Sub(integer.Mul(p, p), integer.Mul(integer.Of(4), q))
	if modular.Kronecker(d, n) != -1 {
		return false
	}
	s := lucas{p, q, n}
	plus := after(n)
	for _, r := range primes {
		if !isCoprime(s.at(quotient(plus, r)), n) {
			return false
		}
	}
	return integer.Sign(s.at(plus)) == 0
}

// lucas is the sequence U(0) = 0, U(1) = 1, U(k+1) = p U(k) - q U(k-1) modulo n.
type lucas struct{ p, q, n api.Int }

// at returns U(k), for a k that is not negative, by its binary digits: the numbers i that they begin with lead from U(i) and U(i+1) to U(2i) and U(2i+1), or the two after.
func (s lucas) at(k api.Int) api.Int {
	u, v := integer.Of(0), integer.Of(1)
	for i := integer.Bits(k) - 1; i >= 0; i-- {
		w := s.residue(integer.Sub(integer.Add(v, v), integer.Mul(s.p, u)))
		square := s.residue(integer.Mul(u, u))
		even := s.residue(integer.Mul(u, w))
		odd := s.residue(integer.Sub(integer.Mul(v, v), integer.Mul(s.q, square)))
		u, v = even, odd
		if k.Mag[i/32]>>(i%32)&1 == 1 {
			u, v = odd, s.next(even, odd)
		}
	}
	return u
}

// next returns the number after two others.
func (s lucas) next(u, v api.Int) api.Int {
	return s.residue(integer.Sub(integer.Mul(s.p, v), integer.Mul(s.q, u)))
}

func (s lucas) residue(a api.Int) api.Int {
	r, _ := modular.Mod(a, s.n)
	return r
}
