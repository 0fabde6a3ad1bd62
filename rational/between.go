package rational

import (
	"algorist/api"
	"algorist/integer"
)

// Between returns the simplest number from a to b.
func Between(a, b api.Rat) (api.Rat, api.Errno) {
	// A denominator that is not positive belongs to no number, and would break the descent.
	if integer.Sign(a.D) <= 0 || integer.Sign(b.D) <= 0 || Cmp(a, b) > 0 {
		return api.Rat{}, api.ErrArg
	}
	switch {
	case Sign(a) > 0:
		return simplest(a, b), api.OK
	case Sign(b) < 0:
		return opposite(simplest(opposite(b), opposite(a))), api.OK
	}
	return api.Rat{D: integer.Of(1)}, api.OK // 0 is between them
}

// simplest returns the simplest number from a to b, where a is positive.
// The simplest number has the least numerator as well as the least denominator: so, if there is no integer from a to b, it is found between the reciprocals of what is left of both without their integer part.
func simplest(a, b api.Rat) api.Rat {
	one := integer.Of(1)
	var find func(an, ad, bn, bd api.Int) (api.Int, api.Int)
	find = func(an, ad, bn, bd api.Int) (api.Int, api.Int) {
		whole, ar, _ := integer.DivMod(an, ad)
		if integer.Sign(ar) == 0 {
			return whole, one
		}
		br := integer.Sub(bn, integer.Mul(whole, bd))
		if integer.Cmp(br, bd) >= 0 { // the next integer is not greater than b
			return integer.Add(whole, one), one
		}
		n, d := find(bd, br, ad, ar)
		return integer.Add(integer.Mul(whole, n), d), n
	}
	n, d := find(a.N, a.D, b.N, b.D)
	return api.Rat{N: n, D: d}
}
