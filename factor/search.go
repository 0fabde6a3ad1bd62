package factor

import (
	"algorist/api"
	"algorist/integer"
	"algorist/prime"
)

const mostSteps = 1<<31 - 1 // with more of them, a search might go on for years

// Search looks for divisors of the numbers of Rest, with so many steps for each number that it meets.
// A step is a division by a small number, or a product of two words.
func Search(f api.Factored, steps int) api.Factored {
	steps = min(steps, mostSteps)
	r := known(f)
	open := numbers(f.Rest)
	for len(open) > 0 {
		n := open[len(open)-1]
		open = open[:len(open)-1]
		if is, _ := prime.Is(n); is {
			r.take(&r.P, n)
		} else if d, ok := divisor(n, steps); ok {
			open = append(open, base([]api.Int{d, n})...) // the parts need not be coprime
		} else {
			r.take(&r.Rest, n)
		}
	}
	return r.sorted()
}

const (
	smallBits    = 40
	rootOfSmall  = 1 << 20 // a composite number of 40 bits has a divisor that is less
	rootOfOthers = 1 << 10 // greater divisors of longer numbers are found sooner by walks
)

// divisor returns a divisor of a number that is no prime below 2^64, which is neither 1 nor the number itself, if it finds one.
func divisor(n api.Int, steps int) (api.Int, bool) {
	if integer.Bits(n) <= smallBits {
		return tried(n, min(rootOfSmall, steps))
	}
	if d, ok := tried(n, min(rootOfOthers, steps)); ok {
		return d, true
	}
	words := len(n.Mag)
	turns := steps / (words * words)
	if turns < 64*words || seemsPrime(n) { // two strong tests take as many turns; on a prime all steps would be lost
		return api.Int{}, false
	}
	if d, ok := exactRoot(n); ok {
		return d, true
	}
	return walked(n, turns)
}

// seemsPrime reports whether a long number is nearly certainly a prime. Two bases are used, as numbers like 2^67 - 1 always seem prime to the base 2.
func seemsPrime(n api.Int) bool {
	two, _ := prime.Strong(n, 2)
	three, _ := prime.Strong(n, 3)
	return two && three
}

// tried looks for the least divisor of n up to a limit. It is not n itself, which is no prime.
func tried(n api.Int, limit int) (api.Int, bool) {
	for d := 2; d <= limit; d += 1 + d%2 {
		if residue(n, d) == 0 {
			return integer.Of(int64(d)), true
		}
	}
	return api.Int{}, false
}

// exactRoot looks for a number of which n is a power. Roots of less than 20 bits are found by walks, too.
func exactRoot(n api.Int) (api.Int, bool) {
	for k := 2; 20*k <= integer.Bits(n); k++ {
		d, _ := integer.Root(n, k)
		if _, ok := quotient(n, d); ok {
			return d, true
		}
	}
	return api.Int{}, false
}
