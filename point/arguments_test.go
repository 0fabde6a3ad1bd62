package point_test

import (
	"math/rand"
	"slices"
	"testing"

	"algorist/api"
	"algorist/point"
)

// callAll calls each function, and returns the points and the numbers of the results.
func callAll(c api.Mod, n api.Int, p, q api.Point) ([]api.Point, []api.Int, []api.Errno) {
	point.On(c, p)
	minus, e1 := point.Neg(c, p)
	s, d, e2 := point.Add(c, p, q)
	double, f, e3 := point.Add(c, p, p)
	multiple, g, e4 := point.Times(c, n, p)
	same, h, e5 := point.Times(c, num(1), p)
	return []api.Point{minus, s, double, multiple, same}, []api.Int{d, f, g, h}, []api.Errno{e1, e2, e3, e4, e5}
}

// withRoom returns the same integer, with three words of 5 behind its size.
func withRoom(a api.Int) api.Int {
	n := len(a.Mag)
	return api.Int{Neg: a.Neg, Mag: append(slices.Clone(a.Mag), 5, 5, 5)[:n]}
}

func kept(a, was api.Int) bool {
	n := len(a.Mag)
	return same(a, was) && slices.Equal(a.Mag[n:n+3], []uint32{5, 5, 5})
}

func curveWithRoom(c api.Mod) api.Mod {
	return api.Mod{A: withRoom(c.A), B: withRoom(c.B), M: withRoom(c.M)}
}

func pointWithRoom(p api.Point) api.Point {
	return api.Point{X: withRoom(p.X), Y: withRoom(p.Y), Inf: p.Inf}
}

func keptCurve(c, was api.Mod) bool {
	return kept(c.A, was.A) && kept(c.B, was.B) && kept(c.M, was.M)
}

func keptPoint(p, was api.Point) bool {
	return kept(p.X, was.X) && kept(p.Y, was.Y) && p.Inf == was.Inf
}

// P2 and F5: the arguments stay as they are, also behind the end of their sizes; equal arguments have equal results, which are new memory.
func TestArgumentsAreKept(t *testing.T) {
	visit := func(c api.Mod, p, q api.Point) {
		n := num(-6)
		x, y, z, m := curveWithRoom(c), pointWithRoom(p), pointWithRoom(q), withRoom(n)
		ps, ds, es := callAll(x, m, y, z)
		again, numbers, errors := callAll(c, n, p, q)
		if !slices.Equal(es, errors) || !slices.EqualFunc(ps, again, samePoint) || !slices.EqualFunc(ds, numbers, same) {
			t.Errorf("other results for %s", show(c, p, q))
		}
		for i, s := range ps { // overwritten one by one, so that memory that two of them share shows
			if !same(s.X, again[i].X) {
				t.Fatalf("result %d of %s has memory of one before it", i, show(c, p, q))
			}
			overwrite(s.X)
			if !same(s.Y, again[i].Y) {
				t.Fatalf("Y of result %d of %s has memory of X", i, show(c, p, q))
			}
			overwrite(s.Y)
		}
		for _, d := range ds {
			overwrite(d)
		}
		if !keptCurve(x, c) || !keptPoint(y, p) || !keptPoint(z, q) || !kept(m, n) {
			t.Fatalf("%s has become %s", show(c, p, q), show(x, y, z))
		}
	}
	r := rand.New(rand.NewSource(21))
	for _, m := range []int64{5, 7, 9, 15, 21, 35} {
		for _, c := range curves(m, 9) {
			ps := points(c)
			for _, p := range ps {
				visit(c, p, ps[r.Intn(len(ps))])
				visit(c, p, infinity)
				visit(c, infinity, p)
			}
		}
	}
	moduli := longPrimes(t)
	for i, p := range moduli {
		c, ps := glued(r, p, moduli[(i+1)%len(moduli)])
		for _, u := range ps {
			for _, v := range ps {
				visit(c, u, v)
			}
		}
	}
}

// overwrite destroys a number of a result.
func overwrite(a api.Int) {
	for i := range a.Mag {
		a.Mag[i] += 77
	}
}

// strangeNumbers has numbers that curves and points do not have, some of them not canonical.
func strangeNumbers() []api.Int {
	return []api.Int{
		{}, {Neg: true}, {Mag: []uint32{0}}, {Neg: true, Mag: []uint32{0, 0}}, {Mag: []uint32{1}}, {Mag: []uint32{1, 0}}, {Neg: true, Mag: []uint32{1}}, {Mag: []uint32{5}}, {Mag: []uint32{5, 0, 0}}, {Mag: []uint32{35}}, {Neg: true, Mag: []uint32{35}}, {Mag: []uint32{6}}, {Mag: []uint32{0, 1}}, {Mag: []uint32{1, 1}},
	}
}

// P1: no function panics or hangs, whatever the numbers are.
func TestStrangeArguments(t *testing.T) {
	zs := strangeNumbers()
	var ps []api.Point
	for _, x := range zs {
		for _, y := range zs {
			ps = append(ps, api.Point{X: x, Y: y}, api.Point{X: x, Y: y, Inf: true})
		}
	}
	for _, m := range zs {
		for i, a := range zs {
			for j, b := range zs {
				c := api.Mod{A: a, B: b, M: m}
				for k := 0; k < len(ps); k += 5 {
					callAll(c, zs[(i+j+k)%len(zs)], ps[k], ps[(7*k+i)%len(ps)])
				}
			}
		}
	}
	for _, n := range zs {
		for _, p := range []api.Point{at(0, 1), infinity} {
			callAll(curve(1, 1, 5), n, p, p)
			callAll(curve(1, 1, 35), n, p, p)
		}
	}
}

// Numbers that are not canonical are those of no curve and of no point.
func TestOnOtherWords(t *testing.T) {
	five, oneMore, none := api.Int{Mag: []uint32{5, 0}}, api.Int{Mag: []uint32{1, 0}}, api.Int{Neg: true}
	for _, x := range []struct {
		c api.Mod
		p api.Point
	}{
		{api.Mod{A: num(1), B: num(1), M: five}, at(0, 1)}, {api.Mod{A: oneMore, B: num(1), M: num(5)}, at(0, 1)}, {api.Mod{A: num(1), B: oneMore, M: num(5)}, at(0, 1)}, {api.Mod{A: num(1), B: oneMore, M: num(5)}, infinity},
		{curve(1, 1, 5), api.Point{X: none, Y: num(1)}}, {curve(1, 1, 5), api.Point{X: num(0), Y: oneMore}}, {curve(1, 1, 5), api.Point{X: none, Inf: true}}, {curve(1, 1, 5), api.Point{Y: api.Int{Mag: []uint32{0}}, Inf: true}},
	} {
		if point.On(x.c, x.p) {
			t.Errorf("On(%v, %v)", x.c, x.p)
		}
	}
}
