package factor

import (
	"slices"

	"algorist/api"
	"algorist/integer"
)

const mostDivisors = 4000

// Divisors returns the divisors of a number that is factored completely, in increasing order.
func Divisors(f api.Factored) ([]api.Int, api.Errno) {
	if len(f.Rest) > 0 {
		return nil, api.ErrNone
	}
	if tooMany(f.P) { // asked first, as the divisors may be too long to be made in vain
		return nil, api.ErrBig
	}
	divisors := []api.Int{integer.Of(1)}
powers:
	for _, q := range f.P {
		more := len(divisors) * q.K
		for i := 0; ; i++ {
			if i >= more {
				continue powers
			}
			divisors = append(divisors, integer.Mul(divisors[i], q.P)) // these divisors follow each other in the order of the ones that have one factor less
		}
	}
	slices.SortFunc(divisors, integer.Cmp)
	return divisors, api.OK
}

// tooMany reports whether the products of these powers are more than may be listed.
func tooMany(powers []api.Power) bool {
	count := 1
	for _, q := range powers {
		if q.K >= mostDivisors/count {
			return true
		}
		count *= max(q.K, 0) + 1
	}
	return false
}
