package compose_test

import (
	"math"
	"math/rand"
	"slices"
	"testing"

	"algorist/api"
	"algorist/compose"
)

// results of a call of each function.
type results struct {
	numbers []api.Int
	small   []int
	errors  []api.Errno
}

func (r *results) form(f api.Form, e api.Errno) {
	r.numbers = append(r.numbers, f.A, f.B, f.C)
	r.errors = append(r.errors, e)
}

// arguments of a call of each function.
type arguments struct {
	f, g api.Form
	n, d api.Int
	h, p int
	l    []api.Form
}

func callAll(a arguments) results {
	var r results
	r.form(compose.Compose(a.f, a.g))
	r.form(compose.Compose(a.f, a.f))
	r.form(compose.Power(a.f, a.n))
	r.form(compose.Power(a.f, num(1)))
	r.form(compose.Power(a.f, num(0)))
	r.form(compose.Power(a.f, num(-1)))
	r.form(compose.Prime(a.d, a.p))
	n, e := compose.Order(a.f, a.h)
	r.small, r.errors = append(r.small, n), append(r.errors, e)
	roots, e := compose.Roots(a.f, a.l)
	r.small, r.errors = append(r.small, len(roots)), append(r.errors, e)
	for _, f := range roots {
		r.form(f, api.OK)
	}
	return r
}

func (r results) equal(s results) bool {
	return slices.EqualFunc(r.numbers, s.numbers, same) && slices.Equal(r.small, s.small) && slices.Equal(r.errors, s.errors)
}

// withRoom returns the same integer, with three words of 5 behind its size.
func withRoom(a api.Int) api.Int {
	n := len(a.Mag)
	return api.Int{Neg: a.Neg, Mag: append(slices.Clone(a.Mag), 5, 5, 5)[:n]}
}

func kept(a, was api.Int) bool {
	n := len(a.Mag)
	return same(a, was) && slices.Equal(a.Mag[n:n+3], []uint32{5, 5, 5})
}

func formWithRoom(f api.Form) api.Form {
	return api.Form{A: withRoom(f.A), B: withRoom(f.B), C: withRoom(f.C)}
}

func keptForm(f, was api.Form) bool { return kept(f.A, was.A) && kept(f.B, was.B) && kept(f.C, was.C) }

// copied returns the same arguments with room behind all sizes, and behind the list.
func copied(a arguments) arguments {
	a.f, a.g, a.n, a.d = formWithRoom(a.f), formWithRoom(a.g), withRoom(a.n), withRoom(a.d)
	var l []api.Form
	for _, f := range a.l {
		l = append(l, formWithRoom(f))
	}
	a.l = append(l, form(7, 7, 7))[:len(l)]
	return a
}

func (a arguments) kept(was arguments) bool {
	last := a.l[:len(a.l)+1][len(a.l)]
	return keptForm(a.f, was.f) && keptForm(a.g, was.g) && kept(a.n, was.n) && kept(a.d, was.d) && slices.EqualFunc(a.l, was.l, keptForm) && sameForm(last, form(7, 7, 7))
}

// P2 and I6: the arguments stay as they are, also behind the end of their sizes; equal arguments have equal results, which are new memory.
func TestArgumentsAreKept(t *testing.T) {
	roots := 0
	visit := func(a arguments) {
		x := copied(a)
		first, again := callAll(x), callAll(a)
		if !first.equal(again) {
			t.Errorf("other results for %v", a)
		}
		for i, n := range first.numbers { // overwritten one by one, so that memory that two of them share shows
			if !same(n, again.numbers[i]) {
				t.Fatalf("number %d of the results for %v has memory of one before it", i, a)
			}
			for j := range n.Mag[:cap(n.Mag)] {
				n.Mag[:cap(n.Mag)][j] += 77
			}
		}
		if !x.kept(a) {
			t.Fatalf("%v has become %v", a, x)
		}
		roots += first.small[1]
	}
	r := rand.New(rand.NewSource(31))
	for _, d := range []int64{-3, -4, -23, -84, -128, -420} {
		fs := classes(d)
		for _, f := range fs {
			for _, g := range fs {
				a := arguments{f: f, g: g, n: num(int64(r.Intn(20) - 10)), d: num(d), h: 24, p: 19, l: append(slices.Clone(fs), g, moved(r, g, 2, 3))}
				visit(a)
				a.f, a.g = moved(r, f, 2, 2), moved(r, g, 3, 4)
				visit(a)
			}
		}
	}
	for _, words := range []int{1, 2, 6} {
		fs := related(r, words)
		for _, f := range fs {
			visit(arguments{f: f, g: fs[0], n: fromBig(neg(pattern(r, words))), d: fromBig(discriminant(f)), h: 720720, p: 2, l: []api.Form{fs[1], f, f}})
			visit(arguments{f: product(f, f), g: f, n: num(3), d: fromBig(discriminant(f)), h: 1, p: 1048573, l: []api.Form{inverse(f), f, f}})
		}
	}
	for _, f := range unsuitable() {
		visit(arguments{f: f, g: form(2, 1, 3), n: num(5), d: f.B, h: 3, p: 5, l: []api.Form{f}})
		visit(arguments{f: form(2, 1, 3), g: f, n: f.A, d: f.C, h: -3, p: 1, l: []api.Form{f, form(2, -1, 3)}})
	}
	if roots < 200 {
		t.Errorf("only %d roots", roots)
	}
}

// P1: no function panics or hangs, whatever the numbers are.
func TestStrangeArguments(t *testing.T) {
	zs := append(strange(), num(0), num(1), num(-1), num(2), num(-23), num(-24), fromBig(near(32, 0)), fromBig(neg(near(64, -1))))
	smalls := []int{math.MinInt, math.MinInt + 1, -1 << 32, -2, -1, 0, 1, 2, 3, 4, 6, 1<<20 - 3, 1 << 20, 1 << 32, math.MaxInt - 1, math.MaxInt}
	i := 0
	for _, a := range zs {
		for _, b := range zs {
			for _, c := range zs {
				i++
				f, g := api.Form{A: a, B: b, C: c}, api.Form{A: c, B: b, C: a}
				h, p := smalls[i%len(smalls)], smalls[i/7%len(smalls)]
				callAll(arguments{f: f, g: g, n: c, d: a, h: h, p: p, l: []api.Form{f, g, {}, form(2, 1, 3)}})
				callAll(arguments{f: form(2, 1, 3), g: f, n: b, d: b, h: p, p: h, l: make([]api.Form, i%403)})
			}
		}
	}
	for _, z := range zs {
		for _, p := range smalls {
			callAll(arguments{f: form(3, 1, 2), g: form(2, 1, 3), n: z, d: z, h: p, p: p})
		}
	}
}
