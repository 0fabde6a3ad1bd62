package rational_test

import (
	"math/big"
	"math/rand"
	"slices"
	"testing"

	"algorist/api"
	"algorist/rational"
)

// toBig and fromBig read and write the words themselves, so that the tests do not rest on what they test.
func toBig(a api.Int) *big.Int {
	z := new(big.Int)
	for i, w := range a.Mag {
		z.Or(z, new(big.Int).Lsh(big.NewInt(int64(w)), uint(32*i)))
	}
	if a.Neg {
		z.Neg(z)
	}
	return z
}

func fromBig(z *big.Int) api.Int {
	a := api.Int{Neg: z.Sign() < 0}
	for rest := new(big.Int).Abs(z); rest.Sign() > 0; rest.Rsh(rest, 32) {
		a.Mag = append(a.Mag, uint32(new(big.Int).And(rest, big.NewInt(1<<32-1)).Uint64()))
	}
	return a
}

// toRat and fromRat do the same for rational numbers; math/big keeps them in lowest terms, too.
func toRat(a api.Rat) *big.Rat { return new(big.Rat).SetFrac(toBig(a.N), toBig(a.D)) }

func fromRat(q *big.Rat) api.Rat { return api.Rat{N: fromBig(q.Num()), D: fromBig(q.Denom())} }

// rat returns n/d for small numbers.
func rat(n, d int64) api.Rat { return fromRat(big.NewRat(n, d)) }

func sameInt(a, b api.Int) bool { return a.Neg == b.Neg && slices.Equal(a.Mag, b.Mag) }

func same(a, b api.Rat) bool { return sameInt(a.N, b.N) && sameInt(a.D, b.D) }

func sameInterval(a, b api.Interval) bool { return same(a.Lo, b.Lo) && same(a.Hi, b.Hi) }

// isZeroValue reports whether a result is api.Rat{}, which is no number.
func isZeroValue(a api.Rat) bool { return same(a, api.Rat{}) }

// expect checks that a result is the only valid representation of a number.
func expect(t *testing.T, got api.Rat, want *big.Rat, what ...any) {
	t.Helper()
	if !same(got, fromRat(want)) {
		t.Errorf("%v: got %v, want %v", what, got, want)
	}
}

func expectInterval(t *testing.T, got api.Interval, lo, hi *big.Rat, what ...any) {
	t.Helper()
	expect(t, got.Lo, lo, append(what, "Lo")...)
	expect(t, got.Hi, hi, append(what, "Hi")...)
}

// samples returns fractions of small numbers, of powers of two and their neighbors, and of numbers of random words; each also with the other sign.
func samples() []*big.Rat {
	qs := []*big.Rat{new(big.Rat)}
	add := func(n, d *big.Int) {
		q := new(big.Rat).SetFrac(n, d)
		qs = append(qs, q, new(big.Rat).Neg(q))
	}
	for _, c := range [][2]int64{{1, 1}, {2, 1}, {7, 1}, {1, 2}, {1, 3}, {2, 3}, {3, 2}, {5, 6}, {-9, 25}, {17, 50}, {355, 113}, {1, 1 << 62}, {1 << 62, 3}} {
		add(big.NewInt(c[0]), big.NewInt(c[1]))
	}
	one := big.NewInt(1)
	for _, n := range []uint{31, 32, 64, 96, 4096} {
		p := new(big.Int).Lsh(one, n)
		below, above := new(big.Int).Sub(p, one), new(big.Int).Add(p, one)
		add(p, below)
		add(below, above)
		add(above, one)
		add(one, p)
	}
	r := rand.New(rand.NewSource(2))
	for n := 1; n <= 6; n++ {
		add(words(r, n), words(r, n))
		add(words(r, n), words(r, 7-n))
	}
	common := words(r, 3) // a divisor that is lost
	add(new(big.Int).Mul(words(r, 2), common), new(big.Int).Mul(words(r, 1), common))
	return qs
}

// words returns a positive number of at most so many words.
func words(r *rand.Rand, n int) *big.Int {
	z := new(big.Int)
	for range n {
		z.Lsh(z, 32)
		z.Or(z, big.NewInt(int64(r.Uint32())))
	}
	return z.Add(z, big.NewInt(1))
}

// rats returns the samples as numbers of the program.
func rats() []api.Rat {
	var as []api.Rat
	for _, q := range samples() {
		as = append(as, fromRat(q))
	}
	return as
}

// few returns fewer samples, for laws of three numbers.
func few() []api.Rat {
	var as []api.Rat
	for i, a := range rats() {
		if i%5 == 0 || i < 8 {
			as = append(as, a)
		}
	}
	return as
}

// small returns all fractions from -most to most with denominators up to most, in their order.
func small(most int64) []*big.Rat {
	var qs []*big.Rat
	for d := int64(1); d <= most; d++ {
		for n := -most * d; n <= most*d; n++ {
			if q := big.NewRat(n, d); q.Denom().Int64() == d { // otherwise it was there before
				qs = append(qs, q)
			}
		}
	}
	slices.SortFunc(qs, (*big.Rat).Cmp)
	return qs
}

func div(t *testing.T, a, b api.Rat) api.Rat {
	t.Helper()
	q, e := rational.Div(a, b)
	if e != api.OK {
		t.Fatalf("Div(%v, %v): error %d", a, b, e)
	}
	return q
}

func between(t *testing.T, a, b api.Rat) api.Rat {
	t.Helper()
	q, e := rational.Between(a, b)
	if e != api.OK {
		t.Fatalf("Between(%v, %v): error %d", a, b, e)
	}
	return q
}

// A span is an interval between numbers of math/big.
type span struct{ lo, hi *big.Rat }

func (s span) value() api.Interval { return api.Interval{Lo: fromRat(s.lo), Hi: fromRat(s.hi)} }

// spans returns all intervals between the numbers of a sorted list.
func spans(qs []*big.Rat) []span {
	var ss []span
	for i, lo := range qs {
		for _, hi := range qs[i:] {
			ss = append(ss, span{lo, hi})
		}
	}
	return ss
}

// long returns intervals between samples.
func long() []span {
	var qs []*big.Rat
	for i, q := range samples() {
		if i%7 == 1 {
			qs = append(qs, q)
		}
	}
	slices.SortFunc(qs, (*big.Rat).Cmp)
	return spans(qs)
}
