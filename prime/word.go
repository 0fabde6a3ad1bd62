package prime

import "math/bits"

// bases are the primes up to 41: no composite number below 3317044064679887385961981 is a strong probable prime to all of them (Sorenson and Webster).
var bases = [13]uint64{2, 3, 5, 7, 11, 13, 17, 19, 23, 29, 31, 37, 41}

func isPrime(n uint64) bool {
	if n < 2 {
		return false
	}
	for _, p := range bases {
		if n%p == 0 {
			return n == p
		}
	}
	if n < 43*43 { // a divisor would be at least 43
		return true
	}
	for _, b := range bases {
		if !strongWord(n, b) {
			return false
		}
	}
	return true
}

// strongWord reports whether n, which is odd and greater than 2, is a strong probable prime to the base b.
func strongWord(n, b uint64) bool {
	b %= n
	if b == 0 {
		return true
	}
	s := bits.TrailingZeros64(n - 1)
	z := powWord(b, (n-1)>>s, n)
	if z == 1 || z == n-1 {
		return true
	}
	for range s - 1 {
		z = mulWord(z, z, n)
		if z == n-1 {
			return true
		}
	}
	return false
}

// witnessWord does for a word what Witness does; it returns 0 if there is none.
func witnessWord(n uint64) int {
	for b := uint64(2); b <= greatestWitness; b++ {
		if !strongWord(n, b) {
			return int(b)
		}
	}
	return 0
}

// powWord returns the residue of b^d modulo n, which is greater than b and 1.
func powWord(b, d, n uint64) uint64 {
	z := uint64(1)
	for ; d > 0; d >>= 1 {
		if d&1 == 1 {
			z = mulWord(z, b, n)
		}
		b = mulWord(b, b, n)
	}
	return z
}

// mulWord multiplies residues modulo n.
func mulWord(a, b, n uint64) uint64 {
	high, low := bits.Mul64(a, b)
	return bits.Rem64(high, low, n)
}
