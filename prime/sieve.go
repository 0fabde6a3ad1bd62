package prime

import (
	"iter"

	"algorist/api"
)

const greatestSmall = 1 << 20

// Small returns the primes up to a number.
func Small(n int) ([]int, api.Errno) {
	if n > greatestSmall {
		return nil, api.ErrBig
	}
	composite := make([]bool, max(n, 0)+1)
	var primes []int
	for p := 2; p <= n; p++ {
		if composite[p] {
			continue
		}
		primes = append(primes, p)
		for m := range multiples(p, n) {
			composite[m] = true
		}
	}
	return primes, api.OK
}

// multiples yields the multiples of p up to n, from its square on: the smaller ones have a smaller divisor.
func multiples(p, n int) iter.Seq[int] {
	return func(yield func(int) bool) {
		for m := p * p; m <= n && yield(m); m += p {
		}
	}
}
