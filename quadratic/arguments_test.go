package quadratic_test

import (
	"math/rand"
	"slices"
	"testing"

	"algorist/api"
	"algorist/quadratic"
)

// results of a call of each function.
type results struct {
	numbers []api.Int
	errors  []api.Errno
	facts   []bool
}

func (r *results) form(f api.Form) { r.numbers = append(r.numbers, f.A, f.B, f.C) }

func (r *results) mat(m api.Mat) { r.numbers = append(r.numbers, m.A, m.B, m.C, m.D) }

func callAll(f, g api.Form, m, n api.Mat) results {
	var r results
	h, k, e1 := quadratic.Reduce(f)
	r.form(h)
	r.mat(k)
	i, e2 := quadratic.Inverse(f)
	r.form(i)
	p, e3 := quadratic.Principal(f.B)
	r.form(p)
	s, ok := quadratic.Same(f, g)
	r.mat(s)
	s, itself := quadratic.Same(f, f)
	r.mat(s)
	r.form(quadratic.Apply(f, m))
	r.mat(quadratic.Times(m, n))
	r.mat(quadratic.Times(m, m))
	r.numbers = append(r.numbers, quadratic.Disc(f), quadratic.Value(f, m.A, m.B), quadratic.Value(f, m.A, m.A), quadratic.Det(m))
	r.errors = []api.Errno{quadratic.Check(f), e1, e2, e3}
	r.facts = []bool{quadratic.Primitive(f), quadratic.Reduced(f), ok, itself}
	return r
}

func (r results) equal(s results) bool {
	return slices.EqualFunc(r.numbers, s.numbers, same) && slices.Equal(r.errors, s.errors) && slices.Equal(r.facts, s.facts)
}

// withRoom returns the same integer, with three words of 5 behind its size.
func withRoom(a api.Int) api.Int {
	n := len(a.Mag)
	return api.Int{Neg: a.Neg, Mag: append(slices.Clone(a.Mag), 5, 5, 5)[:n]}
}

func kept(a, was api.Int) bool {
	n := len(a.Mag)
	return same(a, was) && slices.Equal(a.Mag[n:n+3], []uint32{5, 5, 5})
}

func formWithRoom(f api.Form) api.Form {
	return api.Form{A: withRoom(f.A), B: withRoom(f.B), C: withRoom(f.C)}
}

func matWithRoom(m api.Mat) api.Mat {
	return api.Mat{A: withRoom(m.A), B: withRoom(m.B), C: withRoom(m.C), D: withRoom(m.D)}
}

func keptForm(f, was api.Form) bool { return kept(f.A, was.A) && kept(f.B, was.B) && kept(f.C, was.C) }

func keptMat(m, was api.Mat) bool {
	return kept(m.A, was.A) && kept(m.B, was.B) && kept(m.C, was.C) && kept(m.D, was.D)
}

// P2 and H8: the arguments stay as they are, also behind the end of their sizes; equal arguments have equal results, which are new memory.
func TestArgumentsAreKept(t *testing.T) {
	visit := func(f, g api.Form, m, n api.Mat) {
		x, y, u, v := formWithRoom(f), formWithRoom(g), matWithRoom(m), matWithRoom(n)
		first, again := callAll(x, y, u, v), callAll(f, g, m, n)
		if !first.equal(again) {
			t.Errorf("other results for %s, %s, %s, %s", show(f), show(g), showMat(m), showMat(n))
		}
		for i, a := range first.numbers { // overwritten one by one, so that memory that two of them share shows
			if !same(a, again.numbers[i]) {
				t.Fatalf("number %d of the results for %s, %s, %s, %s has memory of one before it", i, show(f), show(g), showMat(m), showMat(n))
			}
			for j := range a.Mag[:cap(a.Mag)] {
				a.Mag[:cap(a.Mag)][j] += 77
			}
		}
		if !keptForm(x, f) || !keptForm(y, g) || !keptMat(u, m) || !keptMat(v, n) {
			t.Fatalf("%s, %s, %s, %s have become %s, %s, %s, %s", show(f), show(g), showMat(m), showMat(n), show(x), show(y), showMat(u), showMat(v))
		}
	}
	r := rand.New(rand.NewSource(21))
	boxed(4, func(f api.Form) {
		for _, m := range []api.Mat{mat(1, 0, 0, 1), mat(0, -1, 1, 0), mat(1, 0, 0, 0), mat(2, -3, 5, 7)} {
			visit(f, f, m, mat(1, 0, 0, 1))
			visit(f, form(2, 1, 3), m, moves(r, 2, 5))
		}
	})
	for _, bits := range []uint{1, 32, 64, 300} {
		for _, f := range longReduced(r, bits) {
			m, n := moves(r, 3, 40), moves(r, 2, 33)
			visit(f, f, m, n)
			visit(under(f, m), under(f, n), m, n)
			visit(bigForm(toBig(f.A), toBig(f.B), neg(toBig(f.C))), f, n, m)
		}
	}
}

// P1: no function panics or hangs, whatever the numbers are.
func TestStrangeArguments(t *testing.T) {
	zs := append(strange(), num(0), num(1), num(-1), num(2), num(7), fromBig(near(32, 0)), fromBig(near(64, -1)))
	at := func(i int) api.Int { return zs[i%len(zs)] }
	i := 0
	for _, a := range zs {
		for _, b := range zs {
			for _, c := range zs {
				i++
				m := api.Mat{A: at(i), B: at(3 * i), C: at(5*i + 1), D: at(11*i + 7)}
				n := api.Mat{A: at(i + 2), B: at(i + 5), C: at(7 * i), D: at(2*i + 3)}
				callAll(api.Form{A: a, B: b, C: c}, api.Form{A: b, B: c, C: a}, m, n)
				callAll(api.Form{A: a, B: b, C: c}, form(2, 1, 3), n, m)
			}
		}
	}
}
