package rational

import (
	"slices"

	"algorist/api"
)

// Exactly returns the interval of one number.
func Exactly(q api.Rat) api.Interval {
	return hull(q)
}

// IAdd returns the interval of the sums.
func IAdd(a, b api.Interval) api.Interval {
	return api.Interval{Lo: Add(a.Lo, b.Lo), Hi: Add(a.Hi, b.Hi)}
}

// ISub returns the interval of the differences.
func ISub(a, b api.Interval) api.Interval {
	return api.Interval{Lo: Sub(a.Lo, b.Hi), Hi: Sub(a.Hi, b.Lo)}
}

// IMul returns the interval of the products.
func IMul(a, b api.Interval) api.Interval {
	return hull(Mul(a.Lo, b.Lo), Mul(a.Lo, b.Hi), Mul(a.Hi, b.Lo), Mul(a.Hi, b.Hi))
}

// Scale returns the interval of the products with a number.
func Scale(i api.Interval, q api.Rat) api.Interval {
	return hull(Mul(i.Lo, q), Mul(i.Hi, q))
}

// Meet returns the interval of the numbers that are in both, if there are any.
func Meet(a, b api.Interval) (api.Interval, bool) {
	lo, hi := hull(a.Lo, b.Lo).Hi, hull(a.Hi, b.Hi).Lo
	if Cmp(lo, hi) > 0 {
		return api.Interval{}, false
	}
	return api.Interval{Lo: lo, Hi: hi}, true
}

// Has reports whether a number is in an interval.
func Has(i api.Interval, q api.Rat) bool {
	return Cmp(i.Lo, q) <= 0 && Cmp(q, i.Hi) <= 0
}

// Inside reports whether all numbers of a are in b.
func Inside(a, b api.Interval) bool {
	return Has(b, a.Lo) && Has(b, a.Hi)
}

// hull returns the shortest interval that has all of these numbers.
func hull(first api.Rat, others ...api.Rat) api.Interval {
	lo, hi := first, first
	for _, q := range others {
		if Cmp(q, lo) < 0 {
			lo = q
		}
		if Cmp(q, hi) > 0 {
			hi = q
		}
	}
	return api.Interval{Lo: copied(lo), Hi: copied(hi)} // copies, because both may be the same argument
}

func copied(q api.Rat) api.Rat {
	q.N.Mag = slices.Clone(q.N.Mag)
	q.D.Mag = slices.Clone(q.D.Mag)
	return q
}
