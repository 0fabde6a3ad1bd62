package factor

import (
	"slices"

	"algorist/api"
	"algorist/integer"
)

// Split refines what was not factored by a divisor.
func Split(f api.Factored, d api.Int) (api.Factored, api.Errno) {
	if integer.Sign(d) <= 0 {
		return api.Factored{}, api.ErrArg
	}
	r := known(f)
	for _, b := range base(append(numbers(f.Rest), d)) { // those that divide no number of Rest divide nothing of what is left of N
		r.take(&r.Rest, b)
	}
	if slices.EqualFunc(r.Rest, f.Rest, sameNumber) {
		return api.Factored{}, api.ErrNone
	}
	return r.tidied(), api.OK
}

// Merge returns the factorization that has what two others know.
func Merge(f, g api.Factored) (api.Factored, api.Errno) {
	if integer.Cmp(f.N, g.N) != 0 {
		return api.Factored{}, api.ErrArg
	}
	primes := numbers(f.P, g.P)
	slices.SortFunc(primes, integer.Cmp)
	all := base(numbers(f.P, f.Rest, g.P, g.Rest))
	for _, p := range primes {
		if !has(all, p) {
			return api.Factored{}, api.ErrFact
		}
	}
	r := start(f.N, max(f.Bound, g.Bound))
	for _, b := range all {
		if has(primes, b) {
			r.take(&r.P, b)
		} else {
			r.take(&r.Rest, b)
		}
	}
	return r.tidied(), api.OK
}

// base returns the base of some numbers, in increasing order, and uses up their list. Those that are less than 2 are left out.
// Two numbers that are equal are replaced like others, by themselves and two quotients 1.
func base(open []api.Int) []api.Int {
	var coprime []api.Int
next:
	for len(open) > 0 {
		x := open[len(open)-1]
		open = open[:len(open)-1]
		if integer.Cmp(x, integer.Of(2)) < 0 {
			continue
		}
		for i, y := range coprime {
			if d := integer.Gcd(x, y); !isOne(d) {
				xd, _ := quotient(x, d)
				yd, _ := quotient(y, d)
				coprime = slices.Delete(coprime, i, i+1)
				open = append(open, d, xd, yd)
				continue next
			}
		}
		coprime = append(coprime, x)
	}
	slices.SortFunc(coprime, integer.Cmp)
	return coprime
}

// numbers returns the numbers of all these powers.
func numbers(lists ...[]api.Power) []api.Int {
	var all []api.Int
	for _, powers := range lists {
		for _, q := range powers {
			all = append(all, q.P)
		}
	}
	return all
}

// has reports whether a number is in a list, which is in increasing order.
func has(list []api.Int, n api.Int) bool {
	_, ok := slices.BinarySearchFunc(list, n, integer.Cmp)
	return ok
}

func sameNumber(a, b api.Power) bool {
	return integer.Cmp(a.P, b.P) == 0
}
