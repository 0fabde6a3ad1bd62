package genus_test

import (
	"math/rand"
	"slices"
	"testing"

	"algorist/api"
	"algorist/genus"
)

// results of a call of each function.
type results struct {
	numbers []api.Int
	small   [][]int
	facts   []bool
	errors  []api.Errno
}

func callAll(f, g api.Form, d api.Int) results {
	var r results
	l, e1 := genus.Characters(d)
	n, e2 := genus.Genera(d)
	v, e3 := genus.Values(f)
	same, e4 := genus.Same(f, g)
	itself, e5 := genus.Same(f, f)
	principal, e6 := genus.Principal(f)
	fs, e7 := genus.Ambiguous(d)
	for _, f := range fs {
		r.numbers = append(r.numbers, f.A, f.B, f.C)
	}
	r.small = [][]int{l, {n, len(fs)}, v}
	r.facts = []bool{same, itself, principal}
	r.errors = []api.Errno{e1, e2, e3, e4, e5, e6, e7}
	return r
}

func (r results) equal(s results) bool {
	return slices.EqualFunc(r.numbers, s.numbers, same) && slices.EqualFunc(r.small, s.small, slices.Equal) && slices.Equal(r.facts, s.facts) && slices.Equal(r.errors, s.errors)
}

// withRoom returns the same integer, with three words of 5 behind its size.
func withRoom(a api.Int) api.Int {
	n := len(a.Mag)
	return api.Int{Neg: a.Neg, Mag: append(slices.Clone(a.Mag), 5, 5, 5)[:n]}
}

func kept(a, was api.Int) bool {
	n := len(a.Mag)
	return same(a, was) && slices.Equal(a.Mag[n:n+3], []uint32{5, 5, 5})
}

func formWithRoom(f api.Form) api.Form {
	return api.Form{A: withRoom(f.A), B: withRoom(f.B), C: withRoom(f.C)}
}

func keptForm(f, was api.Form) bool { return kept(f.A, was.A) && kept(f.B, was.B) && kept(f.C, was.C) }

// P2 and J5: the arguments stay as they are, also behind the end of their sizes; equal arguments have equal results, which are new memory.
func TestArgumentsAreKept(t *testing.T) {
	visit := func(f, g api.Form, d api.Int) {
		x, y, z := formWithRoom(f), formWithRoom(g), withRoom(d)
		first, again := callAll(x, y, z), callAll(f, g, d)
		if !first.equal(again) {
			t.Errorf("other results for %s, %s and %v", show(f), show(g), toBig(d))
		}
		for i, n := range first.numbers { // overwritten one by one, so that memory that two of them share shows
			if !same(n, again.numbers[i]) {
				t.Fatalf("number %d of the results for %v has memory of one before it", i, toBig(d))
			}
			for j := range n.Mag[:cap(n.Mag)] {
				n.Mag[:cap(n.Mag)][j] += 77
			}
		}
		for _, l := range first.small {
			clear(l[:cap(l)])
		}
		if !keptForm(x, f) || !keptForm(y, g) || !kept(z, d) {
			t.Fatalf("%s, %s and %v have become %s, %s and %v", show(f), show(g), toBig(d), show(x), show(y), toBig(z))
		}
		if !callAll(f, g, d).equal(again) {
			t.Errorf("results for %s, %s and %v have memory of the program", show(f), show(g), toBig(d))
		}
	}
	r := rand.New(rand.NewSource(21))
	for _, d := range append(discriminants(-3, -200), special()...) {
		fs := classes(d)
		for range 3 {
			f, g := fs[r.Intn(len(fs))], fs[r.Intn(len(fs))]
			visit(f, g, num(d))
			visit(moved(r, f, 2, 50), moved(r, g, 3, 20), num(d))
			visit(f, f, num(1-d))
		}
	}
	for _, f := range wrong() {
		visit(f, form(2, 1, 3), fromBig(discriminant(f)))
		visit(form(2, 1, 3), f, f.A)
	}
	for _, d := range mixedDiscriminants() {
		visit(form(1, 0, 5), form(2, 2, 3), fromBig(d))
	}
}

// P1: no function panics or hangs, whatever the numbers are.
func TestStrangeArguments(t *testing.T) {
	zs := append(strange(), num(0), num(1), num(-1), num(2), num(-23), num(-24), num(least), num(-least), fromBig(near(32, 0)), fromBig(near(32, 1)), fromBig(neg(near(64, -1))))
	for _, a := range zs {
		for _, b := range zs {
			for _, c := range zs {
				f, g := api.Form{A: a, B: b, C: c}, api.Form{A: c, B: b, C: a}
				callAll(f, g, a)
				callAll(form(2, 1, 3), f, c)
			}
		}
	}
}
