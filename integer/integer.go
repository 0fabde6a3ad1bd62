// Package integer computes with integers of any length.
package integer

import "algorist/api"

// Valid reports whether an integer is canonical.
func Valid(a api.Int) bool {
	n := len(a.Mag)
	if n == 0 {
		return !a.Neg
	}
	return a.Mag[n-1] != 0
}

// Of returns a number as an integer.
func Of(n int64) api.Int {
	u := uint64(n)
	if n < 0 {
		u = -u // right for -2^63, too, which has no opposite number in int64
	}
	return signed(n < 0, fromWord(u))
}

// Low returns an integer as a number, if it is one of 64 bits.
func Low(a api.Int) (int64, bool) {
	x := trim(a.Mag)
	if len(x) > 2 {
		return 0, false
	}
	u, greatest := toWord(x), uint64(1<<63-1)
	if a.Neg {
		greatest = 1 << 63
	}
	if u > greatest {
		return 0, false
	}
	if a.Neg {
		u = -u
	}
	return int64(u), true
}

// Neg returns the opposite number.
func Neg(a api.Int) api.Int {
	return signed(!a.Neg, copied(a.Mag))
}

// Abs returns the absolute value.
func Abs(a api.Int) api.Int {
	return signed(false, copied(a.Mag))
}

// Sign returns -1, 0 or 1, as a number is negative, 0 or positive.
func Sign(a api.Int) int {
	if len(trim(a.Mag)) == 0 {
		return 0
	}
	if a.Neg {
		return -1
	}
	return 1
}

// Cmp returns -1, 0 or 1, as a is less than b, equal to it, or greater.
func Cmp(a, b api.Int) int {
	s, t := Sign(a), Sign(b)
	if s != t {
		return order(s < t)
	}
	return s * cmpSize(trim(a.Mag), trim(b.Mag))
}

// Bits returns the number of binary digits of the absolute value.
func Bits(a api.Int) int {
	return bits(trim(a.Mag))
}

// Add returns the sum.
func Add(a, b api.Int) api.Int {
	x, y := trim(a.Mag), trim(b.Mag)
	if a.Neg == b.Neg {
		return signed(a.Neg, addSize(x, y))
	}
	if cmpSize(x, y) < 0 {
		return signed(b.Neg, subSize(y, x))
	}
	return signed(a.Neg, subSize(x, y))
}

// Sub returns the difference.
func Sub(a, b api.Int) api.Int {
	b.Neg = !b.Neg // not canonical if b is 0, which does not matter to Add
	return Add(a, b)
}

// Mul returns the product.
func Mul(a, b api.Int) api.Int {
	return signed(a.Neg != b.Neg, mulSize(trim(a.Mag), trim(b.Mag)))
}

// signed returns the integer with a sign and a size, which may have zeros at the end; 0 has no sign.
func signed(neg bool, x []uint32) api.Int {
	x = trim(x)
	if len(x) == 0 {
		return api.Int{}
	}
	return api.Int{Neg: neg, Mag: x}
}
