package integer_test

import (
	"math"
	"slices"
	"testing"

	"algorist/api"
	"algorist/integer"
)

// callAll calls each function with a and b, and returns the integers among the results.
func callAll(a, b api.Int, k int) []api.Int {
	integer.Valid(a)
	integer.Low(a)
	integer.Sign(a)
	integer.Cmp(a, b)
	integer.Bits(a)
	q, r, _ := integer.DivMod(a, b)
	g, u, v := integer.Bezout(a, b)
	s, rest, _ := integer.Sqrt(a)
	root, _ := integer.Root(a, k)
	pow, _ := integer.Pow(a, k)
	text, _ := integer.Text(a)
	read, _ := integer.Parse(text)
	return []api.Int{
		integer.Neg(a), integer.Abs(a), integer.Add(a, b), integer.Sub(a, b), integer.Mul(a, b),
		q, r, integer.Gcd(a, b), g, u, v, s, rest, root, pow, read,
	}
}

// P2 and A11: the arguments stay as they are, also behind the end of a size, and equal arguments have equal results.
func TestArgumentsAreKept(t *testing.T) {
	for _, a := range few() {
		for _, b := range few() {
			x, y := withRoom(a), withRoom(b)
			before := callAll(x, y, 3)
			if !same(x, a) || !same(y, b) || !roomKept(x) || !roomKept(y) {
				t.Fatalf("%v and %v have become %v and %v", a, b, x, y)
			}
			if !slices.EqualFunc(before, callAll(a, b, 3), same) {
				t.Errorf("other results for %v and %v", a, b)
			}
			callAll(x, x, 2)
			if !same(x, a) || !roomKept(x) {
				t.Fatalf("%v has become %v", a, x)
			}
		}
	}
}

// withRoom returns the same integer, with three words of 5 behind its size.
func withRoom(a api.Int) api.Int {
	n := len(a.Mag)
	words := append(slices.Clone(a.Mag), 5, 5, 5)
	return api.Int{Neg: a.Neg, Mag: words[:n]}
}

func roomKept(a api.Int) bool {
	n := len(a.Mag)
	return slices.Equal(a.Mag[n:n+3], []uint32{5, 5, 5})
}

// P1: no function panics or hangs, also if integers are not canonical.
func TestStrangeArguments(t *testing.T) {
	strange := []api.Int{
		{Neg: true}, {Mag: []uint32{}}, {Neg: true, Mag: []uint32{}}, {Mag: []uint32{0}}, {Neg: true, Mag: []uint32{0, 0}}, {Mag: []uint32{1, 0}},
		{Neg: true, Mag: []uint32{7, 0, 0, 0}}, {Mag: []uint32{0, 0, 1, 0, 0}}, {Mag: make([]uint32, 200)}, {Mag: []uint32{1, 2, 3}},
	}
	for _, a := range strange {
		for _, b := range strange {
			for _, k := range []int{math.MinInt, -1, 0, 1, 2, 3, 97, 4096, 4097, math.MaxInt} {
				callAll(a, b, k)
			}
		}
	}
}
