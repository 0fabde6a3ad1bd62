package integer

import "algorist/api"

// DivMod returns the quotient and the remainder, which is not negative.
func DivMod(a, b api.Int) (api.Int, api.Int, api.Errno) {
	x, y := trim(a.Mag), trim(b.Mag)
	if len(y) == 0 {
		return api.Int{}, api.Int{}, api.ErrZero
	}
	q, r := divSize(x, y)
	if a.Neg && len(r) > 0 { // otherwise the remainder would be -r
		q = addSize(q, []uint32{1})
		r = subSize(y, r)
	}
	return signed(a.Neg != b.Neg, q), signed(false, r), api.OK
}

// Gcd returns the greatest common divisor.
func Gcd(a, b api.Int) api.Int {
	x, y := copied(trim(a.Mag)), copied(trim(b.Mag))
	for len(y) > 0 && (len(x) > 2 || len(y) > 2) {
		_, r := divSize(x, y)
		x, y = y, r
	}
	if len(y) == 0 {
		return signed(false, x)
	}
	u, v := toWord(x), toWord(y)
	for v > 0 {
		u, v = v, u%v
	}
	return signed(false, fromWord(u))
}

// Bezout returns the greatest common divisor, and writes it as a sum of multiples.
func Bezout(a, b api.Int) (api.Int, api.Int, api.Int) {
	if Sign(b) == 0 {
		return Abs(a), Of(int64(Sign(a))), api.Int{}
	}
	// r is u a plus a multiple of b, and so is rr with uu
	r, rr := a, b
	u, uu := Of(1), Of(0)
	for Sign(rr) != 0 {
		q, rest, _ := DivMod(r, rr)
		r, rr = rr, rest
		u, uu = uu, Sub(u, Mul(q, uu))
	}
	g := Abs(r) // r is negative only if it is b, and then u is 0
	m, _, _ := DivMod(Abs(b), g)
	_, u, _ = DivMod(u, m)
	v, _, _ := DivMod(Sub(g, Mul(u, a)), b)
	return g, u, v
}

// divSize returns the quotient and the remainder of sizes, without zeros at the end; y is not 0.
func divSize(x, y []uint32) ([]uint32, []uint32) {
	switch {
	case cmpSize(x, y) < 0:
		return nil, copied(x)
	case len(x) <= 2:
		u, v := toWord(x), toWord(y)
		return fromWord(u / v), fromWord(u % v)
	case len(y) == 1:
		q := copied(x)
		r := divWord(q, y[0])
		return trim(q), fromWord(uint64(r))
	}
	q, r := divLong(x, y)
	return trim(q), trim(r)
}

// divWord divides x by w in its place, and returns the remainder.
func divWord(x []uint32, w uint32) uint32 {
	var r uint64
	for i := len(x) - 1; i >= 0; i-- {
		t := r<<32 | uint64(x[i])
		x[i] = uint32(t / uint64(w))
		r = t % uint64(w)
	}
	return uint32(r)
}

// divLong divides x by y word by word, like by hand; y has at least two words, and x at least as many.
// Both are shifted so that the first bit of y is 1: then a guess of a word of the quotient by the first words is nearly right.
func divLong(x, y []uint32) ([]uint32, []uint32) {
	n := len(y)
	shift := 32*n - bits(y)
	u, v := shiftUp(x, shift), trim(shiftUp(y, shift))
	q := make([]uint32, len(x)-n+1)
	for i := len(q) - 1; i >= 0; i-- {
		part := u[i : i+n+1]
		g := guess(part, v)
		if subTimes(part, v, g) { // the guess was too great by 1
			g--
			addBack(part, v)
		}
		q[i] = uint32(g)
	}
	return q, shiftDown(u, shift)
}

// guess returns u / v, or 1 more; u has one word more than v, and is less than v 2^32.
func guess(u, v []uint32) uint64 {
	n := len(v)
	first, second := uint64(v[n-1]), uint64(v[n-2])
	t := uint64(u[n])<<32 | uint64(u[n-1])
	g, r := t/first, t%first
	for r < 1<<32 && (g >= 1<<32 || g*second > r<<32|uint64(u[n-2])) {
		g--
		r += first
	}
	return g
}

// subTimes subtracts v times g from u, and reports whether the result is negative; it is then too great by 2^32 to the power of the length of u.
func subTimes(u, v []uint32, g uint64) bool {
	var carry, borrow uint64
	for i, w := range v {
		p := g*uint64(w) + carry
		carry = p >> 32
		t := uint64(u[i]) - uint64(uint32(p)) - borrow
		u[i] = uint32(t)
		borrow = t >> 63
	}
	t := uint64(u[len(v)]) - carry - borrow
	u[len(v)] = uint32(t)
	return t>>63 != 0
}

// addBack adds v to u, without the last carry.
func addBack(u, v []uint32) {
	u[len(v)] += addTimes(u[:len(v)], v, 1)
}
