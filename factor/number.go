package factor

import (
	"algorist/api"
	"algorist/integer"
)

// divideOut returns the greatest k for which b^k divides n, and n / b^k. It returns 0 if b is less than 2, since there is no greatest k then.
// Most of the powers are divided out as powers of b^2, of b^4 and so on, so that great exponents take few steps.
func divideOut(n, b api.Int) (int, api.Int) {
	if integer.Cmp(b, integer.Of(2)) < 0 || integer.Cmp(n, b) < 0 {
		return 0, n
	}
	rest, ok := quotient(n, b)
	if !ok {
		return 0, n
	}
	k, rest := divideOut(rest, integer.Mul(b, b))
	if last, ok := quotient(rest, b); ok {
		return 2*k + 2, last
	}
	return 2*k + 1, rest
}

// logarithm returns the greatest k for which b^k is at most n, and n / b^k, rounded down; b is at least 2. Like divideOut, it takes few steps.
func logarithm(n, b api.Int) (int, api.Int) {
	if integer.Cmp(n, b) < 0 {
		return 0, n
	}
	k, rest := logarithm(n, integer.Mul(b, b))
	if integer.Cmp(rest, b) < 0 {
		return 2 * k, rest
	}
	rest, _, _ = integer.DivMod(rest, b)
	return 2*k + 1, rest
}

// quotient returns n / d, and whether d, which is not 0, divides n.
func quotient(n, d api.Int) (api.Int, bool) {
	q, r, _ := integer.DivMod(n, d)
	return q, integer.Sign(r) == 0
}

// residue returns n modulo d, which is in the range 1 to 2^32 - 1; n is not negative.
func residue(n api.Int, d int) uint64 {
	var r uint64
	for i := len(n.Mag) - 1; i >= 0; i-- {
		r = (r<<32 | uint64(n.Mag[i])) % uint64(d)
	}
	return r
}

func isOne(n api.Int) bool {
	return integer.Cmp(n, integer.Of(1)) == 0
}
