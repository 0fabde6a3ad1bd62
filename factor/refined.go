package factor

import (
	"slices"

	"algorist/api"
	"algorist/integer"
)

// refined is a factorization that is built number by number; left is the part of N of which it has no powers yet.
type refined struct {
	api.Factored
	left api.Int
}

// start returns the factorization of n that has no powers yet.
func start(n api.Int, bound int) *refined {
	return &refined{Factored: api.Factored{N: integer.Abs(n), Bound: bound}, left: n}
}

// known returns a factorization that has no powers yet but those of P of another one.
func known(f api.Factored) *refined {
	r := start(f.N, f.Bound)
	for _, q := range f.P {
		r.take(&r.P, q.P)
	}
	return r
}

// take moves all powers of a number from what is left of N to P or Rest. A number that does not divide it is left out.
func (r *refined) take(to *[]api.Power, number api.Int) {
	k, rest := divideOut(r.left, number)
	if k > 0 {
		*to = append(*to, api.Power{P: integer.Abs(number), K: k}) // Abs copies
		r.left = rest
	}
}

// tidied moves the numbers of Rest that must be primes to P, and returns the factorization.
func (r *refined) tidied() api.Factored {
	next := integer.Of(int64(r.Bound) + 1) // the least divisor that numbers of Rest can have
	square := integer.Mul(next, next)
	var rest []api.Power
	for _, q := range r.Rest {
		if integer.Cmp(q.P, square) < 0 {
			r.P = append(r.P, q)
		} else {
			rest = append(rest, q)
		}
	}
	r.Rest = rest
	return r.sorted()
}

// sorted returns the factorization, with its powers in order.
func (r *refined) sorted() api.Factored {
	slices.SortFunc(r.P, r.compare)
	slices.SortFunc(r.Rest, r.compare)
	return r.Factored
}

// compare compares powers by their numbers.
func (r *refined) compare(a, b api.Power) int {
	return integer.Cmp(a.P, b.P)
}
