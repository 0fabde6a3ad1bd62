package integer

import "algorist/api"

// Sqrt returns the square root, rounded down, and the rest.
func Sqrt(a api.Int) (api.Int, api.Int, api.Errno) {
	if Sign(a) < 0 {
		return api.Int{}, api.Int{}, api.ErrArg
	}
	s := signed(false, rootSize(trim(a.Mag), 2))
	return s, Sub(a, Mul(s, s)), api.OK
}

// Root returns the k-th root, rounded down.
func Root(a api.Int, k int) (api.Int, api.Errno) {
	if Sign(a) < 0 || k < 1 {
		return api.Int{}, api.ErrArg
	}
	return signed(false, rootSize(trim(a.Mag), k)), api.OK
}

// Pow returns a power.
func Pow(a api.Int, n int) (api.Int, api.Errno) {
	if n < 0 || n > maxExponent {
		return api.Int{}, api.ErrArg
	}
	x := trim(a.Mag)
	if (bits(x)-1)*n >= api.MaxBits { // the power has more bits than this product, and may be far too long to compute
		return api.Int{}, api.ErrBig
	}
	p := signed(a.Neg && n%2 == 1, powSize(x, n))
	if Bits(p) > api.MaxBits {
		return api.Int{}, api.ErrBig
	}
	return p, api.OK
}

const maxExponent = 4096

// rootSize returns the k-th root of a size, rounded down; k is at least 1.
func rootSize(x []uint32, k int) []uint32 {
	n := bits(x)
	switch {
	case n == 0 || k == 1:
		return copied(x)
	case n <= k: // x is less than 2^k
		return []uint32{1}
	}
	// The first half of the root, and 1 more, is a bound from above, from which Newton's steps go down to the root.
	s := []uint32{4}
	if half := n / (2 * k); half > 0 {
		first := trim(rootSize(trim(shiftDown(x, half*k)), k))
		s = trim(shiftUp(trim(addSize(first, []uint32{1})), half))
	}
	for {
		t := newton(x, s, k)
		if cmpSize(t, s) >= 0 {
			return s
		}
		s = t
	}
}

// newton returns ((k - 1) s + x / s^(k - 1)) / k, rounded down. It is not less than the k-th root of x, rounded down, and it is less than s if s is greater than that.
func newton(x, s []uint32, k int) []uint32 {
	q, _ := divSize(x, powSize(s, k-1))
	t := trim(mulSize(s, fromWord(uint64(k-1))))
	t, _ = divSize(trim(addSize(t, q)), fromWord(uint64(k)))
	return t
}
