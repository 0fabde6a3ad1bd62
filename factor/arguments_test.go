package factor_test

import (
	"math"
	"math/big"
	"slices"
	"testing"

	"algorist/api"
	"algorist/factor"
)

// outcome has the results of all functions that take a factorization, as texts.
type outcome struct {
	right       bool
	least, most int
	texts       [5]string
	errors      [5]api.Errno
}

// callAll also returns all factorizations and numbers of the results.
func callAll(f, g api.Factored, d api.Int) (outcome, []api.Factored, []api.Int) {
	var o outcome
	var fs [5]api.Factored
	o.right = factor.Right(f)
	o.least, o.most = factor.Omega(f)
	fs[0], o.errors[0] = factor.Trial(f.N, 5)
	fs[1], o.errors[1] = factor.Split(f, d)
	fs[2], o.errors[2] = factor.Settle(f, len(f.Rest)-1)
	fs[3], o.errors[3] = factor.Merge(f, g)
	fs[4] = factor.Search(f, 1000)
	for i, x := range fs {
		o.texts[i] = show(x)
	}
	divisors, e := factor.Divisors(f)
	o.errors[4] = e
	return o, fs[:], divisors
}

// withRoom returns the same number with words of 5 behind the end of its size.
func withRoom(a api.Int) api.Int {
	n := len(a.Mag)
	return api.Int{Neg: a.Neg, Mag: append(slices.Clone(a.Mag), 5, 5, 5)[:n]}
}

func powersWithRoom(qs []api.Power) []api.Power {
	room := make([]api.Power, 0, len(qs)+3)
	for _, q := range qs {
		room = append(room, api.Power{P: withRoom(q.P), K: q.K})
	}
	return append(room, powers(5, 5, 5, 5, 5, 5)...)[:len(qs)]
}

func factoredWithRoom(f api.Factored) api.Factored {
	return api.Factored{N: withRoom(f.N), P: powersWithRoom(f.P), Rest: powersWithRoom(f.Rest), Bound: f.Bound}
}

func roomKept(a api.Int) bool {
	n := len(a.Mag)
	return slices.Equal(a.Mag[n:n+3], []uint32{5, 5, 5})
}

func allRoomKept(f api.Factored) bool {
	for _, qs := range [][]api.Power{f.P, f.Rest} {
		n := len(qs)
		if !slices.EqualFunc(qs[n:n+3], powers(5, 5, 5, 5, 5, 5), samePower) {
			return false
		}
		for _, q := range qs {
			if !roomKept(q.P) {
				return false
			}
		}
	}
	return roomKept(f.N)
}

// overwrite destroys a result, so that memory that it shares with something else shows.
func overwrite(f api.Factored) {
	words := []api.Int{f.N}
	for _, qs := range [][]api.Power{f.P, f.Rest} {
		for i := range qs {
			words = append(words, qs[i].P)
			qs[i] = api.Power{}
		}
	}
	for _, a := range words {
		for i := range a.Mag {
			a.Mag[i] += 77
		}
	}
}

// P2 and E9: the arguments stay as they are, also behind the end of their slices; equal arguments have equal results, which are new memory.
func TestArgumentsAreKept(t *testing.T) {
	_, fs := sources(t, 40, 60, false)
	_, gs := sources(t, 41, 60, false)
	for i, f := range fs {
		g := gs[i]
		if i%3 > 0 {
			g = factored(1, nil, nil, 3)
			g.N, g.Rest = f.N, nil
			if toBig(f.N).Cmp(one) > 0 {
				g.Rest, g.Bound = []api.Power{{P: f.N, K: 1}}, 0
			}
		}
		d := num(int64(6 + i))
		x, y, z := factoredWithRoom(f), factoredWithRoom(g), withRoom(d)
		got, results, divisors := callAll(x, y, z)
		want, _, _ := callAll(f, g, d)
		if got != want {
			t.Errorf("other results for %s and %s", show(f), show(g))
		}
		for _, r := range results {
			overwrite(r)
		}
		for _, n := range divisors {
			for j := range n.Mag {
				n.Mag[j] += 77
			}
		}
		if !sameFactored(x, f) || !sameFactored(y, g) || !same(z, d) || !allRoomKept(x) || !allRoomKept(y) || !roomKept(z) {
			t.Errorf("%s and %s have become %s and %s", show(f), show(g), show(x), show(y))
		}
	}
}

// P2: no two numbers of one result share memory.
func TestResultsAreSeparate(t *testing.T) {
	separate := func(f api.Factored) {
		t.Helper()
		before := show(api.Factored{P: f.P, Rest: f.Rest, Bound: f.Bound})
		for i := range f.N.Mag {
			f.N.Mag[i] = 0
		}
		if show(api.Factored{P: f.P, Rest: f.Rest, Bound: f.Bound}) != before {
			t.Errorf("N shares memory with %s", before)
		}
	}
	for _, n := range []int64{2, 7, 91, 360, 1<<61 - 1} {
		for _, bound := range []int{0, 1, 5, 100} {
			separate(trial(t, big.NewInt(n), bound))
			f := trial(t, big.NewInt(n), bound)
			g, _ := factor.Merge(f, f)
			separate(g)
			separate(factor.Search(f, 100))
		}
		f := factored(n, nil, powers(n, 1), 0)
		g, e := factor.Settle(f, 0)
		if e != api.OK {
			t.Errorf("Settle(%s): error %d", show(f), e)
		}
		separate(g)
	}
	ds, _ := factor.Divisors(trial(t, big.NewInt(30), 5))
	for i := range ds {
		text := toBig(ds[i]).String()
		for j := range ds[:i] {
			ds[j].Mag[0] = 0
		}
		if toBig(ds[i]).String() != text {
			t.Errorf("%s shares memory with a smaller divisor", text)
		}
	}
}

// strangeNumbers has numbers that factorizations do not have, some of them not canonical.
func strangeNumbers() []api.Int {
	return []api.Int{
		{}, {Neg: true}, {Mag: []uint32{0}}, {Mag: []uint32{1}}, {Neg: true, Mag: []uint32{1}}, {Neg: true, Mag: []uint32{6}}, {Mag: []uint32{6, 0}}, {Mag: []uint32{6, 0, 0, 0}}, {Neg: true, Mag: []uint32{0, 0}}, num(2), num(6), num(36), fromBig(near(70, 0)), fromBig(new(big.Int).Neg(near(70, 5))),
	}
}

// P1: no function panics or hangs, also if a factorization is not right.
func TestStrangeArguments(t *testing.T) {
	var strange []api.Factored
	zs := strangeNumbers()
	for i, n := range zs {
		for j, p := range zs {
			for _, k := range []int{math.MinInt, -1, 0, 1, 2, math.MaxInt} {
				q, other := api.Power{P: p, K: k}, api.Power{P: zs[(i+j)%len(zs)], K: 1}
				strange = append(strange, api.Factored{N: n, P: []api.Power{q, other}}, api.Factored{N: n, Rest: []api.Power{q, other}, Bound: k}, api.Factored{N: n, P: []api.Power{other, q}, Rest: []api.Power{q}, Bound: i - 3})
			}
		}
	}
	for i, f := range strange {
		callAll(f, strange[(7*i)%len(strange)], zs[i%len(zs)])
		callAll(f, f, zs[i%len(zs)])
		for _, steps := range []int{math.MinInt, -1, 0, 1} {
			factor.Search(f, steps)
		}
		factor.Trial(f.N, f.Bound)
		factor.Settle(f, i-5)
	}
}
