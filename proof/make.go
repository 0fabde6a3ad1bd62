package proof

import (
	"iter"

	"algorist/api"
	"algorist/integer"
	"algorist/prime"
)

// searchLimit is the end of the searches for divisors and for bases. Below 2^40 both succeed: a composite number has a divisor up to its square root,
// and the bases that do not suit a prime n and a divisor of n - 1 are a subgroup of the residues, so the least base that does is less than sqrt(n) + 1.
const searchLimit = 1 << 20

// builder has steps that are right.
type builder struct{ steps []api.Step }

// prove adds the steps that prove that n is prime, unless they are there, and returns the index of the last one; it reports whether it has found them.
func (b *builder) prove(n api.Int) (int, bool) {
	for i, s := range b.steps {
		if integer.Cmp(s.N, n) == 0 {
			return i, true
		}
	}
	if !seemsPrime(n) {
		return 0, false
	}
	length := len(b.steps)
	for _, way := range []func(api.Int) (api.Step, bool){smallStep, b.minusStep, b.plusStep} {
		if s, ok := way(n); ok {
			b.steps = append(b.steps, s)
			return len(b.steps) - 1, true
		}
		b.steps = b.steps[:length]
	}
	return 0, false
}

// seemsPrime tells which numbers below 2^64 are primes; of the others, nearly all that it accepts are.
func seemsPrime(n api.Int) bool {
	is, e := prime.Is(n)
	if e == api.OK {
		return is
	}
	return !Denies(n, 2)
}

func smallStep(n api.Int) (api.Step, bool) {
	if integer.Cmp(n, integer.Of(tableEnd)) >= 0 {
		return api.Step{}, false
	}
	return api.Step{Kind: api.ByTable, N: integer.Abs(n)}, true // Abs copies
}

// minusStep adds the steps for divisors of n - 1, and returns the one for n.
func (b *builder) minusStep(n api.Int) (api.Step, bool) {
	parts, primes := b.parts(before(n), func(f api.Int) bool { return isEnoughForMinus(f, n) })
	if len(parts) == 0 {
		return api.Step{}, false
	}
	s := api.Step{Kind: api.ByMinus, N: integer.Abs(n), Parts: parts}
	for _, q := range primes {
		base, ok := minusBase(n, q)
		if !ok {
			return api.Step{}, false
		}
		s.Base = append(s.Base, base)
	}
	return s, true
}

// plusStep adds the steps for divisors of n + 1, and returns the one for n.
func (b *builder) plusStep(n api.Int) (api.Step, bool) {
	parts, primes := b.parts(after(n), func(f api.Int) bool { return isEnoughForPlus(f, n) })
	if len(parts) == 0 {
		return api.Step{}, false
	}
	base, ok := plusBase(n, primes)
	return api.Step{Kind: api.ByPlus, N: integer.Abs(n), Parts: parts, Base: base}, ok
}

// parts adds the steps for prime divisors of m, until the product of their greatest powers in m is enough, and returns their indices and the primes; or nothing, if it does not get that far.
func (b *builder) parts(m api.Int, isEnough func(api.Int) bool) ([]int, []api.Int) {
	var parts []int
	var primes []api.Int
	rest := m
	for q := range divisors(m) {
		i, ok := b.prove(q)
		if !ok {
			break
		}
		parts, primes = append(parts, i), append(primes, q)
		rest = without(rest, q)
		if isEnough(quotient(m, rest)) {
			return parts, primes
		}
	}
	return nil, nil
}

// divisors yields the small prime divisors of m, and then what is left without them, which may be a prime. It ends sooner if that is known to be one.
func divisors(m api.Int) iter.Seq[api.Int] {
	return func(yield func(api.Int) bool) {
		rest := m
		for d := uint64(2); d <= searchLimit; d += 1 + d%2 {
			if remainder(rest, d) != 0 {
				continue
			}
			q := integer.Of(int64(d))
			if !yield(q) {
				return
			}
			rest = without(rest, q)
			if is, _ := prime.Is(rest); is {
				break
			}
		}
		yield(rest)
	}
}

// minusBase returns the least base for a divisor of n - 1, if there is one before a base that shows that n is composite.
func minusBase(n, q api.Int) (api.Int, bool) {
	for i := 2; i <= searchLimit; i++ {
		base := integer.Of(int64(i))
		if isBaseForMinus(n, q, base) {
			return base, true
		}
		if Denies(n, i) {
			break
		}
	}
	return api.Int{}, false
}

// plusBase returns numbers P and Q for divisors of n + 1. P is 1: a sequence with another P has its zeros where the one with 1 and Q/P^2 has them.
func plusBase(n api.Int, primes []api.Int) ([]api.Int, bool) {
	for i := 1; i <= searchLimit; i++ {
		p, q := integer.Of(1), integer.Of(int64(i))
		if isBaseForPlus(n, primes, p, q) {
			return []api.Int{p, q}, true
		}
		if Denies(n, i) {
			break
		}
	}
	return nil, false
}
