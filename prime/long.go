package prime

import (
	"algorist/api"
	"algorist/integer"
)

// test has what the strong tests of a long odd number n have in common: minus is n - 1, which is 2^s d, d odd.
type test struct {
	n, minus api.Int
	s        int
}

func newTest(n api.Int) test {
	t := test{n: n, minus: integer.Sub(n, integer.Of(1))}
	for !bit(t.minus, t.s) {
		t.s++
	}
	return t
}

func (t test) mul(a, b api.Int) api.Int {
	_, r, _ := integer.DivMod(integer.Mul(a, b), t.n)
	return r
}

// power returns the residue of b^d modulo n. A product with b is little longer, and is not reduced before it is squared.
func (t test) power(b int) api.Int {
	base, z := integer.Of(int64(b)), integer.Of(1)
	for i := integer.Bits(t.minus) - 1; i >= t.s; i-- { // the digits of d
		z = t.mul(z, z)
		if bit(t.minus, i) {
			z = integer.Mul(z, base)
		}
	}
	return t.mul(z, integer.Of(1))
}

// passes reports whether z, which is b^d, shows that n is a strong probable prime to the base b.
func (t test) passes(z api.Int) bool {
	if integer.Cmp(z, integer.Of(1)) == 0 || integer.Cmp(z, t.minus) == 0 {
		return true
	}
	for range t.s - 1 {
		z = t.mul(z, z)
		if integer.Cmp(z, t.minus) == 0 {
			return true
		}
	}
	return false
}

// witness does for a long number what Witness does; it returns 0 if there is none.
// Only the powers of primes are computed from nothing: the others are products of powers before them.
func (t test) witness() int {
	var powers [greatestWitness + 1]api.Int
	for b := 2; b <= greatestWitness; b++ {
		if p := leastDivisor(b); p < b {
			powers[b] = t.mul(powers[p], powers[b/p])
		} else {
			powers[b] = t.power(b)
		}
		if !t.passes(powers[b]) {
			return b
		}
	}
	return 0
}

// leastDivisor returns the least divisor of b that is greater than 1.
func leastDivisor(b int) int {
	p := 2
	for b%p != 0 {
		p++
	}
	return p
}

// bit reports whether the i-th binary digit of |n| is 1; i is less than the number of digits.
func bit(n api.Int, i int) bool {
	return n.Mag[i/32]>>(i%32)&1 == 1
}
