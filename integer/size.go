package integer

// A size is the absolute value of an integer: its words, the least significant first.
// The functions of this file take sizes without zeros at the end, and return new memory, which may have such zeros.

// trim cuts off zeros at the end, so that the lengths of sizes can be compared.
func trim(x []uint32) []uint32 {
	n := len(x)
	for n > 0 && x[n-1] == 0 {
		n--
	}
	return x[:n]
}

func copied(x []uint32) []uint32 {
	z := make([]uint32, len(x))
	copy(z, x)
	return z
}

// toWord returns a size of at most two words as a number.
func toWord(x []uint32) uint64 {
	var u uint64
	for i, w := range x {
		u |= uint64(w) << (32 * i)
	}
	return u
}

func fromWord(u uint64) []uint32 {
	return trim([]uint32{uint32(u), uint32(u >> 32)})
}

// bits returns the number of binary digits.
func bits(x []uint32) int {
	if len(x) == 0 {
		return 0
	}
	n := 32 * (len(x) - 1)
	for w := x[len(x)-1]; w > 0; w >>= 1 {
		n++
	}
	return n
}

// order returns the result of a comparison of different numbers.
func order(less bool) int {
	if less {
		return -1
	}
	return 1
}

func cmpSize(x, y []uint32) int {
	if len(x) != len(y) {
		return order(len(x) < len(y))
	}
	for i := len(x) - 1; i >= 0; i-- {
		if x[i] != y[i] {
			return order(x[i] < y[i])
		}
	}
	return 0
}

func addSize(x, y []uint32) []uint32 {
	if len(x) < len(y) {
		x, y = y, x
	}
	z := make([]uint32, len(x)+1)
	var carry uint64
	for i, w := range x {
		t := uint64(w) + carry
		if i < len(y) {
			t += uint64(y[i])
		}
		z[i] = uint32(t)
		carry = t >> 32
	}
	z[len(x)] = uint32(carry)
	return z
}

// subSize returns x - y, where x is not less than y.
func subSize(x, y []uint32) []uint32 {
	z := make([]uint32, len(x))
	var borrow uint64
	for i, w := range x {
		t := uint64(w) - borrow
		if i < len(y) {
			t -= uint64(y[i])
		}
		z[i] = uint32(t)
		borrow = t >> 63 // t has wrapped around exactly if it is negative
	}
	return z
}

func mulSize(x, y []uint32) []uint32 {
	z := make([]uint32, len(x)+len(y))
	for i, w := range x {
		z[i+len(y)] = addTimes(z[i:i+len(y)], y, uint64(w))
	}
	return z
}

// addTimes adds y times w to z, which has the length of y, and returns the carry.
func addTimes(z, y []uint32, w uint64) uint32 {
	var carry uint64
	for i, v := range y {
		t := w*uint64(v) + uint64(z[i]) + carry // at most 2^64 - 1
		z[i] = uint32(t)
		carry = t >> 32
	}
	return uint32(carry)
}

// powSize returns x to the power of k, which is not negative.
func powSize(x []uint32, k int) []uint32 {
	z := []uint32{1}
	for ; k > 0; k >>= 1 {
		if k&1 == 1 {
			z = trim(mulSize(z, x))
		}
		if k > 1 { // the last square would not be used
			x = trim(mulSize(x, x))
		}
	}
	return z
}

// shiftUp returns x 2^n.
func shiftUp(x []uint32, n int) []uint32 {
	words, rest := n/32, n%32
	z := make([]uint32, len(x)+words+1)
	for i, w := range x {
		t := uint64(w) << rest
		z[i+words] |= uint32(t)
		z[i+words+1] = uint32(t >> 32)
	}
	return z
}

// shiftDown returns x / 2^n, rounded down; n is at most 32 times the length of x.
func shiftDown(x []uint32, n int) []uint32 {
	words, rest := n/32, n%32
	z := copied(x[words:])
	for i := range z {
		z[i] >>= rest
		if i+1 < len(z) {
			z[i] |= uint32(uint64(x[words+i+1]) << 32 >> rest)
		}
	}
	return z
}
