package rational_test

import (
	"slices"
	"testing"

	"algorist/api"
	"algorist/integer"
	"algorist/rational"
)

// callAll calls each function with a and b, and returns the numbers among the results.
func callAll(a, b api.Rat) []api.Rat {
	i, j := api.Interval{Lo: a, Hi: b}, api.Interval{Lo: b, Hi: a}
	rational.Valid(a)
	rational.Cmp(a, b)
	rational.Sign(a)
	rational.Has(i, a)
	rational.Inside(i, j)
	text, _ := rational.Text(a)
	read, _ := rational.Parse(text)
	made, _ := rational.New(a.N, b.D)
	other, _ := rational.New(a.N, b.N)
	quotient, _ := rational.Div(a, b)
	up, _ := rational.Between(a, b)
	down, _ := rational.Between(b, a)
	floor := api.Rat{N: rational.Floor(a)}
	results := []api.Rat{read, made, other, quotient, up, down, floor, rational.Add(a, b), rational.Sub(a, b), rational.Mul(a, b)}
	meet, _ := rational.Meet(i, j)
	twice, _ := rational.Meet(i, i)
	for _, x := range []api.Interval{
		rational.Exactly(a), rational.IAdd(i, j), rational.ISub(i, j), rational.IMul(i, j), rational.IMul(i, i), rational.Scale(i, a), rational.Scale(j, rat(1, 1)), meet, twice,
	} {
		results = append(results, x.Lo, x.Hi)
	}
	return results
}

// P2 and B8: the arguments stay as they are, also behind the end of a size, and equal arguments have equal results.
func TestArgumentsAreKept(t *testing.T) {
	for _, a := range few() {
		for _, b := range few() {
			x, y := withRoom(a), withRoom(b)
			before := callAll(x, y)
			if !same(x, a) || !same(y, b) || !roomKept(x) || !roomKept(y) {
				t.Fatalf("%v and %v have become %v and %v", a, b, x, y)
			}
			if !slices.EqualFunc(before, callAll(a, b), same) {
				t.Errorf("other results for %v and %v", a, b)
			}
		}
	}
}

// Results are new memory: when the words of a result are changed, neither an argument nor another result of the call changes.
func TestResultsAreNew(t *testing.T) {
	for _, a := range few() {
		for _, b := range few() {
			x, y := withRoom(a), withRoom(b)
			results, want := callAll(x, y), callAll(a, b)
			for i := range results {
				for k := i + 1; k < len(results); k++ {
					if !same(results[k], want[k]) {
						t.Fatalf("result %d of %v and %v has memory of one before it", k, a, b)
					}
				}
				spoil(results[i].N)
				if !sameInt(results[i].D, want[i].D) {
					t.Fatalf("the numerator of result %d of %v and %v has memory of its denominator", i, a, b)
				}
				spoil(results[i].D)
			}
			if !same(x, a) || !same(y, b) || !roomKept(x) || !roomKept(y) {
				t.Fatalf("a result of %v and %v has memory of them", a, b)
			}
		}
	}
}

func spoil(a api.Int) {
	for i := range a.Mag {
		a.Mag[i] += 77
	}
}

// withRoom returns the same number, with three words of 5 behind its sizes.
func withRoom(a api.Rat) api.Rat {
	room := func(a api.Int) api.Int {
		n := len(a.Mag)
		words := append(slices.Clone(a.Mag), 5, 5, 5)
		return api.Int{Neg: a.Neg, Mag: words[:n]}
	}
	return api.Rat{N: room(a.N), D: room(a.D)}
}

func roomKept(a api.Rat) bool {
	kept := func(a api.Int) bool {
		n := len(a.Mag)
		return slices.Equal(a.Mag[n:n+3], []uint32{5, 5, 5})
	}
	return kept(a.N) && kept(a.D)
}

// P1: no function panics or hangs, also if numbers are not valid, or intervals end before they begin.
func TestStrangeArguments(t *testing.T) {
	ints := []api.Int{
		{}, {Neg: true}, {Mag: []uint32{0}}, {Neg: true, Mag: []uint32{0, 0}}, {Mag: []uint32{1, 0}}, {Neg: true, Mag: []uint32{7, 0, 0, 0}}, {Mag: []uint32{0, 0, 1, 0, 0}},
		integer.Of(1), integer.Of(-1), integer.Of(4), integer.Of(6), integer.Of(-6), {Mag: []uint32{1, 2, 3}},
	}
	var strange []api.Rat
	for _, n := range ints {
		for _, d := range ints {
			strange = append(strange, api.Rat{N: n, D: d})
		}
	}
	for _, a := range strange {
		for _, b := range strange {
			callAll(a, b)
		}
	}
}
