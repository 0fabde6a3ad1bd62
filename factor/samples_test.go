package factor_test

import (
	"fmt"
	"math/big"
	"math/rand"
	"slices"
	"strings"
	"testing"

	"algorist/api"
	"algorist/factor"
)

var one = big.NewInt(1)

// toBig and fromBig read and write the words themselves, so that the tests do not rest on lower layers.
func toBig(a api.Int) *big.Int {
	z := new(big.Int)
	for i := len(a.Mag) - 1; i >= 0; i-- {
		z.Or(z.Lsh(z, 32), big.NewInt(int64(a.Mag[i])))
	}
	if a.Neg {
		z.Neg(z)
	}
	return z
}

func fromBig(z *big.Int) api.Int {
	a := api.Int{Neg: z.Sign() < 0}
	for rest := new(big.Int).Abs(z); rest.Sign() > 0; rest.Rsh(rest, 32) {
		a.Mag = append(a.Mag, uint32(new(big.Int).And(rest, big.NewInt(1<<32-1)).Uint64()))
	}
	return a
}

func canonical(a api.Int) bool {
	n := len(a.Mag)
	return n == 0 && !a.Neg || n > 0 && a.Mag[n-1] != 0
}

// num returns a small number.
func num(n int64) api.Int { return fromBig(big.NewInt(n)) }

func same(a, b api.Int) bool { return a.Neg == b.Neg && slices.Equal(a.Mag, b.Mag) }

func mul(a, b *big.Int) *big.Int { return new(big.Int).Mul(a, b) }

func pow(a *big.Int, k int) *big.Int { return new(big.Int).Exp(a, big.NewInt(int64(k)), nil) }

// near returns 2^n + d.
func near(n uint, d int64) *big.Int {
	return new(big.Int).Add(new(big.Int).Lsh(one, n), big.NewInt(d))
}

func divides(d, n *big.Int) bool { return new(big.Int).Mod(n, d).Sign() == 0 }

func coprime(a, b *big.Int) bool { return new(big.Int).GCD(nil, nil, a, b).Cmp(one) == 0 }

func valuation(n, b *big.Int) int {
	k := 0
	for q := new(big.Int).Set(n); divides(b, q); q.Quo(q, b) {
		k++
	}
	return k
}

// powers returns the powers with these numbers and exponents, in turns.
func powers(list ...int64) []api.Power {
	var qs []api.Power
	for i := 0; i < len(list); i += 2 {
		qs = append(qs, api.Power{P: num(list[i]), K: int(list[i+1])})
	}
	return qs
}

func factored(n int64, p, rest []api.Power, bound int) api.Factored {
	return api.Factored{N: num(n), P: p, Rest: rest, Bound: bound}
}

func show(f api.Factored) string {
	var b strings.Builder
	fmt.Fprintf(&b, "{%v; P:", toBig(f.N))
	for _, q := range f.P {
		fmt.Fprintf(&b, " %v^%d", toBig(q.P), q.K)
	}
	b.WriteString("; Rest:")
	for _, q := range f.Rest {
		fmt.Fprintf(&b, " %v^%d", toBig(q.P), q.K)
	}
	fmt.Fprintf(&b, "; %d}", f.Bound)
	return b.String()
}

func samePower(a, b api.Power) bool { return a.K == b.K && same(a.P, b.P) }

func sameFactored(f, g api.Factored) bool {
	return same(f.N, g.N) && f.Bound == g.Bound && slices.EqualFunc(f.P, g.P, samePower) && slices.EqualFunc(f.Rest, g.Rest, samePower)
}

func isZero(f api.Factored) bool { return sameFactored(f, api.Factored{}) }

func numbers(lists ...[]api.Power) []*big.Int {
	var zs []*big.Int
	for _, qs := range lists {
		for _, q := range qs {
			zs = append(zs, toBig(q.P))
		}
	}
	return zs
}

// right follows the definition.
func right(f api.Factored) bool {
	n := toBig(f.N)
	if !canonical(f.N) || n.Sign() <= 0 || f.Bound < 0 || f.Bound > 65536 {
		return false
	}
	product, all := big.NewInt(1), slices.Concat(f.P, f.Rest)
	for i, q := range all {
		z := toBig(q.P)
		if !canonical(q.P) || z.Cmp(one) <= 0 || q.K < 1 || q.K >= n.BitLen() {
			return false
		}
		if i > 0 && i != len(f.P) && toBig(all[i-1].P).Cmp(z) >= 0 {
			return false
		}
		for _, other := range all[:i] {
			if !coprime(z, toBig(other.P)) {
				return false
			}
		}
		product.Mul(product, pow(z, q.K))
	}
	for _, r := range numbers(f.Rest) {
		if hasDivisor(r, f.Bound) {
			return false
		}
	}
	return product.Cmp(n) == 0
}

// hasDivisor reports whether n has a divisor from 2 to a bound.
func hasDivisor(n *big.Int, bound int) bool {
	for d := uint64(2); d <= uint64(bound); d++ {
		if n.IsUint64() && n.Uint64()%d == 0 || !n.IsUint64() && divides(new(big.Int).SetUint64(d), n) {
			return true
		}
	}
	return false
}

// refines reports whether f has the same N as g, and all numbers of g are products of powers of numbers of f.
func refines(f, g api.Factored) bool {
	for _, z := range numbers(g.P, g.Rest) {
		for _, b := range numbers(f.P, f.Rest) {
			z = new(big.Int).Quo(z, pow(b, valuation(z, b)))
		}
		if z.Cmp(one) != 0 {
			return false
		}
	}
	return same(f.N, g.N)
}

// baseOf follows the definition of a base; which two numbers are replaced first is random.
func baseOf(r *rand.Rand, zs []*big.Int) []*big.Int {
	zs = slices.Clone(zs)
	for again := true; again; {
		again = false
		r.Shuffle(len(zs), func(i, j int) { zs[i], zs[j] = zs[j], zs[i] })
	pairs:
		for i := range zs {
			for j := range i {
				d := new(big.Int).GCD(nil, nil, zs[i], zs[j])
				if d.Cmp(one) == 0 {
					continue
				}
				a, b := zs[i], zs[j]
				zs = slices.Delete(slices.Delete(zs, i, i+1), j, j+1)
				zs = append(zs, d)
				for _, x := range []*big.Int{a, b} {
					if x = new(big.Int).Quo(x, d); x.Cmp(one) != 0 {
						zs = append(zs, x)
					}
				}
				again = true
				break pairs
			}
		}
	}
	slices.SortFunc(zs, (*big.Int).Cmp)
	return zs
}

// built returns the factorization of n with these numbers, which are in increasing order; isPrime says which of them are in P before it is tidied.
func built(n *big.Int, bound int, zs []*big.Int, isPrime func(*big.Int) bool) api.Factored {
	f := api.Factored{N: fromBig(n), Bound: bound}
	square := big.NewInt(int64(bound+1) * int64(bound+1))
	for _, z := range zs {
		q := api.Power{P: fromBig(z), K: valuation(n, z)}
		if isPrime(z) || z.Cmp(square) < 0 {
			f.P = append(f.P, q)
		} else {
			f.Rest = append(f.Rest, q)
		}
	}
	return f
}

// isIn returns a function that reports whether a number is one of the list.
func isIn(zs []*big.Int) func(*big.Int) bool {
	return func(z *big.Int) bool {
		return slices.ContainsFunc(zs, func(x *big.Int) bool { return x.Cmp(z) == 0 })
	}
}

// primePool has the primes of which random numbers are made.
func primePool(t *testing.T) []*big.Int {
	t.Helper()
	ps := []*big.Int{near(16, 1), near(16, 3), near(20, -3), near(20, 7), near(31, -1), near(32, 15), near(40, -87), near(61, -1), near(64, 13), near(89, -1)}
	for _, p := range []int64{2, 3, 5, 7, 11, 13, 17, 19, 23, 101, 257, 1009, 65521} {
		ps = append(ps, big.NewInt(p))
	}
	for _, p := range ps {
		if !p.ProbablyPrime(20) {
			t.Fatalf("%v is no prime", p)
		}
	}
	slices.SortFunc(ps, (*big.Int).Cmp)
	return ps
}

// whole is a number of which all prime divisors are known.
type whole struct {
	n  *big.Int
	ps []*big.Int
	ks []int
}

// randomWhole returns the product of powers of up to most primes of a pool.
func randomWhole(r *rand.Rand, pool []*big.Int, most int) whole {
	w := whole{n: big.NewInt(1)}
	for _, i := range r.Perm(len(pool))[:r.Intn(most+1)] {
		k := 1 + r.Intn(6)
		w.ps, w.ks = append(w.ps, pool[i]), append(w.ks, k)
		w.n = mul(w.n, pow(pool[i], k))
	}
	return w
}

// randomRight returns any right factorization of w: its primes are put into groups, of which each one has a number. If primesOnly is true, all numbers of P are primes.
func randomRight(r *rand.Rand, w whole, primesOnly bool) api.Factored {
	groups := make([][]int, len(w.ps))
	for i := range w.ps {
		g := r.Intn(len(w.ps))
		groups[g] = append(groups[g], i)
	}
	f := api.Factored{N: fromBig(w.n)}
	least := big.NewInt(65537)
	for _, group := range groups {
		if len(group) == 0 {
			continue
		}
		common := 0
		for _, i := range group {
			common = int(new(big.Int).GCD(nil, nil, big.NewInt(int64(common)), big.NewInt(int64(w.ks[i]))).Int64())
		}
		k := 1 + r.Intn(common)
		for common%k != 0 {
			k--
		}
		z, first := big.NewInt(1), w.ps[group[0]]
		for _, i := range group {
			z = mul(z, pow(w.ps[i], w.ks[i]/k))
			if w.ps[i].Cmp(first) < 0 {
				first = w.ps[i]
			}
		}
		q := api.Power{P: fromBig(z), K: k}
		if r.Intn(2) == 0 && (!primesOnly || z.Cmp(first) == 0) {
			f.P = append(f.P, q)
		} else {
			f.Rest = append(f.Rest, q)
			if first.Cmp(least) < 0 {
				least = first
			}
		}
	}
	f.Bound = r.Intn(int(least.Int64()))
	if r.Intn(3) == 0 {
		f.Bound = int(least.Int64()) - 1
	}
	for _, qs := range [][]api.Power{f.P, f.Rest} {
		slices.SortFunc(qs, func(a, b api.Power) int { return toBig(a.P).Cmp(toBig(b.P)) })
	}
	return f
}

// sources returns many right factorizations, with what is known of their numbers.
func sources(t *testing.T, seed int64, count int, primesOnly bool) ([]whole, []api.Factored) {
	t.Helper()
	r := rand.New(rand.NewSource(seed))
	pool := primePool(t)
	var ws []whole
	var fs []api.Factored
	for i := range count {
		few := pool
		if i%2 == 0 {
			few = pool[:9] // small primes, so that divisors are shared often
		}
		w := randomWhole(r, few, 6)
		ws, fs = append(ws, w), append(fs, randomRight(r, w, primesOnly))
	}
	return ws, fs
}

func trial(t *testing.T, n *big.Int, bound int) api.Factored {
	t.Helper()
	f, e := factor.Trial(fromBig(n), bound)
	if e != api.OK {
		t.Fatalf("Trial(%v, %d): error %d", n, bound, e)
	}
	return f
}
