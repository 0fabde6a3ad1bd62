package modular_test

import (
	"math"
	"math/big"
	"slices"
	"testing"

	"algorist/api"
	"algorist/modular"
)

// callAll calls each function with a, b and c, and returns the integers among the results.
func callAll(a, b, c api.Int, k int) []api.Int {
	modular.Kronecker(a, b)
	r, _ := modular.Mod(a, b)
	x, _ := modular.Inv(a, b)
	p, _ := modular.Pow(a, b, c)
	s, _ := modular.Sqrt(a, b)
	y, m, _ := modular.Crt(a, b, b, c)
	z, n, _ := modular.Crt(a, b, a, b)
	roots, _ := modular.Roots(a, b, k)
	return append([]api.Int{r, x, p, s, y, m, z, n}, roots...)
}

// ints returns samples, among which are the primes 2, 3, 5, 7, 97 and 65537.
func ints() []api.Int {
	var as []api.Int
	for i, z := range samples() {
		if i%7 == 0 || z.CmpAbs(big.NewInt(8)) < 0 || z.IsInt64() && (z.Int64() == 97 || z.Int64() == 65537) {
			as = append(as, fromBig(z))
		}
	}
	return as
}

// P2 and C7: the arguments stay as they are, also behind the end of a size, and equal arguments have equal results.
func TestArgumentsAreKept(t *testing.T) {
	for _, a := range ints() {
		for _, b := range ints() {
			for _, c := range []api.Int{a, b, num(7)} {
				x, y, z := withRoom(a), withRoom(b), withRoom(c)
				before := callAll(x, y, z, 1)
				if !kept(x, a) || !kept(y, b) || !kept(z, c) {
					t.Fatalf("%v, %v and %v have become %v, %v and %v", a, b, c, x, y, z)
				}
				if !slices.EqualFunc(before, callAll(a, b, c, 1), same) {
					t.Errorf("other results for %v, %v and %v", a, b, c)
				}
			}
		}
	}
}

// Results are new memory: when the words of a result are changed, neither an argument nor another result of the call changes.
func TestResultsAreNew(t *testing.T) {
	for _, a := range ints() {
		for _, b := range ints() {
			x, y, z := withRoom(a), withRoom(b), withRoom(num(7))
			results, want := callAll(x, y, z, 1), callAll(a, b, num(7), 1)
			for i := range results {
				if !same(results[i], want[i]) {
					t.Fatalf("result %d of %v and %v has memory of one before it", i, a, b)
				}
				for j := range results[i].Mag {
					results[i].Mag[j] += 77
				}
			}
			if !kept(x, a) || !kept(y, b) || !kept(z, num(7)) {
				t.Fatalf("a result of %v and %v has memory of them", a, b)
			}
		}
	}
}

// withRoom returns the same integer, with three words of 5 behind its size.
func withRoom(a api.Int) api.Int {
	n := len(a.Mag)
	words := append(slices.Clone(a.Mag), 5, 5, 5)
	return api.Int{Neg: a.Neg, Mag: words[:n]}
}

func kept(a, was api.Int) bool {
	n := len(a.Mag)
	return same(a, was) && slices.Equal(a.Mag[n:n+3], []uint32{5, 5, 5})
}

// P1: no function panics or hangs, also if integers are not canonical.
func TestStrangeArguments(t *testing.T) {
	strange := []api.Int{
		{}, {Neg: true}, {Mag: []uint32{0}}, {Neg: true, Mag: []uint32{0, 0}}, {Mag: []uint32{1, 0}}, {Mag: []uint32{2, 0}}, {Neg: true, Mag: []uint32{7, 0, 0, 0}},
		{Mag: []uint32{0, 0, 1, 0, 0}}, {Mag: make([]uint32, 200)}, {Mag: []uint32{1, 2, 3}}, {Neg: true, Mag: []uint32{1, 2, 3, 0}}, num(1), num(-1), num(7), num(13),
	}
	for _, a := range strange {
		for _, b := range strange {
			for _, c := range strange {
				for _, k := range []int{math.MinInt, -1, 0, 1, 2, 20, math.MaxInt} {
					callAll(a, b, c, k)
				}
			}
		}
	}
}

// P1: Sqrt ends for numbers that are no primes, also for squares, modulo which many symbols are never -1; a root is still one.
func TestRootsModuloOtherNumbers(t *testing.T) {
	var moduli []*big.Int
	for n := int64(2); n < 300; n++ {
		moduli = append(moduli, big.NewInt(n))
	}
	p, q := power(3, 189, 1), power(1, 255, -19)
	moduli = append(moduli, mul(p, p), mul(q, q), mul(p, q), mul(mul(p, p), q), mul(mul(p, p), mul(q, q)), power(1, 200, 0), power(1, 201, 0), mul(p, big.NewInt(9)))
	for _, m := range moduli {
		for a := int64(0); a < 60; a++ {
			x, e := modular.Sqrt(num(a), fromBig(m))
			if e == api.OK && mod(mul(toBig(x), toBig(x)), m).Cmp(mod(big.NewInt(a), m)) != 0 {
				t.Errorf("Sqrt(%d, %v) = %v", a, m, x)
			}
		}
	}
}
