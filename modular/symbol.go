package modular

import (
	"math/bits"

	"algorist/api"
	"algorist/integer"
)

// Kronecker returns the symbol (a/n).
func Kronecker(a, n api.Int) int {
	if integer.Sign(n) == 0 {
		if isOne(integer.Abs(a)) {
			return 1
		}
		return 0
	}
	if low(a)&1 == 0 && low(n)&1 == 0 {
		return 0
	}
	s := 1
	if integer.Sign(a) < 0 && integer.Sign(n) < 0 {
		s = -1
	}
	n, twos := oddPart(n)
	s *= ofTwos(twos, low(a)) // the same for a and -a
	n = integer.Abs(n)
	return s * jacobi(within(n)(a), n)
}

// jacobi returns the symbol of a residue a modulo n, which is odd and positive.
func jacobi(a, n api.Int) int {
	s := 1
	for integer.Bits(n) > 63 {
		if integer.Sign(a) == 0 {
			return 0
		}
		odd, twos := oddPart(a)
		s *= ofTwos(twos, low(n)) * turned(low(odd), low(n))
		a, n = within(odd)(n), odd
	}
	x, _ := integer.Low(a)
	y, _ := integer.Low(n)
	return s * jacobiWords(uint64(x), uint64(y))
}

// jacobiWords does the same as jacobi for words.
func jacobiWords(a, n uint64) int {
	s := 1
	for a != 0 {
		twos := bits.TrailingZeros64(a)
		a >>= twos
		s *= ofTwos(twos, uint32(n)) * turned(uint32(a), uint32(n))
		a, n = n%a, a
	}
	if n != 1 {
		return 0
	}
	return s
}

// ofTwos returns (2/n) to the power of k, by the last word of n, which is odd unless k is 0.
func ofTwos(k int, n uint32) int {
	if k&1 == 1 && (n&7 == 3 || n&7 == 5) {
		return -1
	}
	return 1
}

// turned returns (a/n)(n/a) for coprime odd positive numbers, by their last words.
func turned(a, n uint32) int {
	if a&n&3 == 3 {
		return -1
	}
	return 1
}

// low returns the last word of |a|.
func low(a api.Int) uint32 {
	if len(a.Mag) == 0 {
		return 0
	}
	return a.Mag[0]
}

// oddPart divides a, which is not 0, by the greatest power of 2 that divides it, and returns its exponent, too.
func oddPart(a api.Int) (api.Int, int) {
	k := 0
	for a.Mag[k/32] == 0 {
		k += 32
	}
	k += bits.TrailingZeros32(a.Mag[k/32])
	if k == 0 {
		return a, 0
	}
	power := make([]uint32, k/32+1)
	power[k/32] = 1 << (k % 32)
	odd, _, _ := integer.DivMod(a, api.Int{Mag: power})
	return odd, k
}
