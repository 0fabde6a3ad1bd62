package prime_test

import (
	"math"
	"slices"
	"testing"

	"algorist/api"
	"algorist/prime"
)

// outcome has the results of all functions that take an integer.
type outcome struct {
	is, strong bool
	witness    int
	errors     [4]api.Errno
}

func callAll(n api.Int, b int) (outcome, api.Int) {
	var o outcome
	var next api.Int
	o.is, o.errors[0] = prime.Is(n)
	o.strong, o.errors[1] = prime.Strong(n, b)
	next, o.errors[2] = prime.Next(n)
	o.witness, o.errors[3] = prime.Witness(n)
	return o, next
}

// P2 and D6: the argument stays as it is, also behind the end of its size; equal arguments have equal results, which are new memory.
func TestArgumentsAreKept(t *testing.T) {
	for i, z := range append(samples(), longPrimes(t)...) {
		if i%3 != 0 {
			continue
		}
		n := fromBig(z)
		room := append(slices.Clone(n.Mag), 5, 5, 5)
		x := api.Int{Neg: n.Neg, Mag: room[:len(n.Mag)]}
		got, next := callAll(x, 3)
		want, nextWant := callAll(n, 3)
		if got != want || !same(next, nextWant) {
			t.Errorf("other results for %v", z)
		}
		for j := range next.Mag {
			next.Mag[j] += 77
		}
		if !same(x, n) || !slices.Equal(room[len(n.Mag):], []uint32{5, 5, 5}) {
			t.Errorf("%v has become %v", z, x)
		}
	}
}

// P2: the lists of two calls of Small are separate.
func TestListsAreNew(t *testing.T) {
	ps, _ := prime.Small(100)
	for i := range ps {
		ps[i] = 0
	}
	if qs, _ := prime.Small(100); len(qs) != 25 || qs[0] != 2 || qs[24] != 97 {
		t.Errorf("Small(100) has become %v", qs)
	}
}

// P1: no function panics or hangs, also if an integer is not canonical.
func TestStrangeArguments(t *testing.T) {
	for _, n := range []api.Int{
		{}, {Neg: true}, {Mag: []uint32{0}}, {Neg: true, Mag: []uint32{0, 0}}, {Mag: []uint32{1, 0}}, {Mag: []uint32{2, 0, 0}}, {Mag: []uint32{3, 0}}, {Neg: true, Mag: []uint32{7, 0, 0, 0}},
		{Mag: []uint32{11, 0, 0, 0}}, {Mag: []uint32{13, 5, 0, 0}}, {Mag: []uint32{0, 0, 1, 0, 0}}, {Mag: []uint32{1, 0, 1, 0, 0}}, {Mag: []uint32{13, 0, 1, 0}}, {Mag: make([]uint32, 200)}, {Neg: true, Mag: []uint32{1, 2, 3, 0}},
	} {
		for _, b := range []int{math.MinInt, -1, 0, 1, 2, 3, math.MaxInt} {
			callAll(n, b)
		}
	}
}
