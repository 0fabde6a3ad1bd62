package factor_test

import (
	"math/big"
	"math/rand"
	"slices"
	"testing"

	"algorist/api"
	"algorist/factor"
)

// P5.2: the result of Trial is right; its P are primes, and Rest has no divisor up to the bound.
func TestTrialIsRight(t *testing.T) {
	r := rand.New(rand.NewSource(20))
	_, fs := sources(t, 21, 100, false)
	for i := range 400 {
		n := new(big.Int).Rand(r, near(uint(1+i/4), 0))
		n.Add(n, one)
		if i < len(fs) {
			n = toBig(fs[i].N)
		}
		bound := r.Intn(65537) >> r.Intn(17)
		f := trial(t, n, bound)
		if !factor.Right(f) || !right(f) || f.Bound != bound || len(f.Rest) > 1 {
			t.Errorf("Trial(%v, %d) = %s", n, bound, show(f))
		}
		for _, p := range numbers(f.P) {
			if !p.ProbablyPrime(10) {
				t.Errorf("Trial(%v, %d): %v is no prime", n, bound, p)
			}
		}
		for _, q := range f.Rest {
			if hasDivisor(toBig(q.P), bound) {
				t.Errorf("Trial(%v, %d): Rest has a divisor", n, bound)
			}
		}
	}
}

// P5.3: Split refines, and splitting once more by the same divisor changes nothing.
func TestSplitRefines(t *testing.T) {
	r := rand.New(rand.NewSource(22))
	ws, fs := sources(t, 23, 400, false)
	split := 0
	for i, f := range fs {
		d := big.NewInt(1 + r.Int63n(4))
		for j, p := range ws[i].ps {
			d = mul(d, pow(p, r.Intn(ws[i].ks[j]+2)))
		}
		g, e := factor.Split(f, fromBig(d))
		if e != api.OK {
			continue
		}
		split++
		if !factor.Right(g) || !right(g) || !refines(g, f) || g.Bound != f.Bound {
			t.Errorf("Split(%s, %v) = %s", show(f), d, show(g))
		}
		if h, e := factor.Split(g, fromBig(d)); e != api.ErrNone || !isZero(h) {
			t.Errorf("Split(%s, %v) = %s, %d, though it was split", show(g), d, show(h), e)
		}
	}
	if split < 100 {
		t.Errorf("only %d were split", split)
	}
}

func merge(t *testing.T, f, g api.Factored) (api.Factored, bool) {
	t.Helper()
	h, e := factor.Merge(f, g)
	if e != api.OK && e != api.ErrFact {
		t.Errorf("Merge(%s, %s): error %d", show(f), show(g), e)
	}
	return h, e == api.OK
}

// P5.4: Merge refines both; it is commutative and idempotent, and associative where there is no error.
func TestMergeLaws(t *testing.T) {
	r := rand.New(rand.NewSource(24))
	for _, primesOnly := range []bool{false, true} {
		ws, fs := sources(t, 25, 300, primesOnly)
		associated := 0
		for i, f := range fs {
			g, h := randomRight(r, ws[i], primesOnly), randomRight(r, ws[i], primesOnly)
			fg, ok := merge(t, f, g)
			gf, also := merge(t, g, f)
			if ok != also || !sameFactored(fg, gf) {
				t.Errorf("Merge(%s, %s) = %s, but %s the other way", show(f), show(g), show(fg), show(gf))
			}
			if !ok {
				continue
			}
			if !factor.Right(fg) || !refines(fg, f) || !refines(fg, g) {
				t.Errorf("Merge(%s, %s) = %s", show(f), show(g), show(fg))
			}
			if again, ok := merge(t, fg, fg); !ok || !sameFactored(again, fg) {
				t.Errorf("Merge of %s with itself is %s", show(fg), show(again))
			}
			if again, ok := merge(t, fg, f); !ok || !sameFactored(again, fg) {
				t.Errorf("Merge of %s with %s is %s", show(fg), show(f), show(again))
			}
			gh, ok := merge(t, g, h)
			left, first := merge(t, fg, h)
			if !ok || !first {
				continue
			}
			if right, ok := merge(t, f, gh); ok {
				associated++
				if !sameFactored(left, right) {
					t.Errorf("Merge of %s, %s and %s is %s or %s", show(f), show(g), show(h), show(left), show(right))
				}
			}
		}
		if associated < 60 || primesOnly && associated < 300 {
			t.Errorf("only %d were merged", associated)
		}
	}
}

// P5.4: Merge of a factorization with itself is the same one, tidied.
func TestMergeWithItself(t *testing.T) {
	_, fs := sources(t, 26, 300, false)
	for _, f := range fs {
		want := built(toBig(f.N), f.Bound, sortedNumbers(f), isIn(numbers(f.P)))
		if got, ok := merge(t, f, f); !ok || !sameFactored(got, want) {
			t.Errorf("Merge of %s with itself is %s", show(f), show(got))
		}
	}
}

func sortedNumbers(f api.Factored) []*big.Int {
	zs := numbers(f.P, f.Rest)
	slices.SortFunc(zs, (*big.Int).Cmp)
	return zs
}

// P5.5: with enough steps, numbers below 2^40 are factored completely.
func TestSmallNumbersAreFactored(t *testing.T) {
	r := rand.New(rand.NewSource(27))
	ns := []*big.Int{near(40, -1), near(40, -87), mul(near(20, -3), near(20, -3)), mul(near(20, -3), near(20, -5)), mul(near(20, -3), near(20, -17)), mul(near(19, -1), near(20, -3)), mul(big.NewInt(3), near(38, 7)), near(39, 0), pow(big.NewInt(3), 25), pow(near(13, -1), 3), mul(near(10, -3), near(29, -3))}
	for n := int64(1); n < 1500; n++ {
		ns = append(ns, big.NewInt(n))
	}
	for range 150 {
		ns = append(ns, new(big.Int).Add(new(big.Int).Rand(r, near(40, -1)), one))
	}
	for i, n := range ns {
		f := trial(t, n, []int{0, 1, 2, 10, 1000}[i%5])
		g := checkSearch(t, f, 1<<21)
		if len(g.Rest) > 0 {
			t.Errorf("Search(%s) = %s", show(f), show(g))
		}
	}
}

// P5.5: numbers below 2^40 are factored, too, if they are powers, or are found as divisors of greater ones, however many there are.
func TestSmallPartsAreFactored(t *testing.T) {
	a, b, c := mul(near(20, -3), near(20, -5)), mul(near(20, 7), near(19, -1)), big.NewInt(97*1009)
	n := mul(mul(pow(a, 3), pow(b, 2)), c)
	f := built(n, 96, baseOf(rand.New(rand.NewSource(1)), []*big.Int{a, b, c}), isIn(nil))
	if g := checkSearch(t, f, 1<<21); !right(f) || len(f.Rest) < 2 || len(g.Rest) > 0 {
		t.Errorf("Search(%s) = %s", show(f), show(g))
	}
	f = api.Factored{N: fromBig(n), Rest: []api.Power{{P: fromBig(n), K: 1}}}
	if g := checkSearch(t, f, 1<<21); len(g.Rest) > 0 {
		t.Errorf("Search(%s) = %s", show(f), show(g))
	}
}

// Greater numbers, too, are factored if it takes few steps. This is not promised, but it is what the search is for.
func TestGreaterNumbersAreFactored(t *testing.T) {
	for _, n := range []*big.Int{
		near(64, -1), near(64, 1), near(67, -1), near(70, 0), mul(near(100, 0), pow(big.NewInt(3), 50)), pow(near(61, -1), 2), pow(near(61, -1), 7), pow(near(31, -1), 5), pow(near(20, 7), 4), mul(near(31, -1), near(32, 15)), mul(near(31, -1), pow(near(32, 15), 2)),
		new(big.Int).Rsh(pow(big.NewInt(3), 47), 1),                                                  // a strong probable prime to the base 3
		mul(big.NewInt(1048583), big.NewInt(1049479)), mul(big.NewInt(1049429), big.NewInt(1050233)), // both divisors are found at the same place of the first walk
		mul(near(20, 7), near(61, -1)), mul(mul(near(20, 7), near(31, -1)), mul(near(32, 15), near(16, 1))), pow(big.NewInt(1031), 5), pow(mul(near(61, -1), big.NewInt(1009)), 3),
	} {
		f := api.Factored{N: fromBig(n), Rest: []api.Power{{P: fromBig(n), K: 1}}}
		if g := checkSearch(t, f, 1<<21); len(g.Rest) > 0 {
			t.Errorf("Search(%s) = %s", show(f), show(g))
		}
	}
}

// P1: a search ends soon, also for long numbers of which no divisor is found.
func TestSearchEnds(t *testing.T) {
	r := rand.New(rand.NewSource(28))
	hard := mul(near(64, 13), near(89, -1))
	ns := []*big.Int{near(64, 13), near(89, -1), near(521, -1), near(2203, -1), hard, mul(hard, near(127, -1)), mul(near(521, -1), near(607, -1)), mul(near(2203, -1), near(2281, -1)), new(big.Int).Rand(r, near(4096, 0)), new(big.Int).Rand(r, near(30000, 0))}
	for _, n := range ns {
		for _, steps := range []int{0, 1, 1 << 10, 1 << 21, 1 << 22} {
			checkSearch(t, api.Factored{N: fromBig(n), Rest: []api.Power{{P: fromBig(n), K: 1}}}, steps)
		}
	}
}

// P5.6: the number of different prime divisors lies between the bounds of Omega.
func TestOmegaBounds(t *testing.T) {
	ws, fs := sources(t, 29, 600, true)
	exact := 0
	for i, f := range fs {
		least, most := factor.Omega(f)
		if n := len(ws[i].ps); n < least || n > most {
			t.Errorf("Omega(%s) = %d, %d, but there are %d primes", show(f), least, most, n)
		}
		if least == most {
			exact++
		}
	}
	if exact < 50 || exact > 550 {
		t.Errorf("the bounds are the same for %d", exact)
	}
}

// P5.7: the divisors are in increasing order, as many as the exponents say, and each one divides N.
func TestDivisorsDivide(t *testing.T) {
	ws, _ := sources(t, 30, 300, true)
	listed := 0
	for _, w := range ws {
		f := api.Factored{N: fromBig(w.n)}
		count := 1
		for i, p := range w.ps {
			f.P = append(f.P, api.Power{P: fromBig(p), K: w.ks[i]})
			count *= w.ks[i] + 1
		}
		slices.SortFunc(f.P, func(a, b api.Power) int { return toBig(a.P).Cmp(toBig(b.P)) })
		ds, e := factor.Divisors(f)
		if count > 4000 {
			if e != api.ErrBig || len(ds) > 0 {
				t.Errorf("Divisors(%s) are %d, and the error is %d", show(f), len(ds), e)
			}
			continue
		}
		listed++
		if e != api.OK || len(ds) != count {
			t.Errorf("Divisors(%s) are %d, and the error is %d", show(f), len(ds), e)
		}
		for i, d := range ds {
			if !canonical(d) || !divides(toBig(d), w.n) || i > 0 && toBig(ds[i-1]).Cmp(toBig(d)) >= 0 {
				t.Errorf("Divisors(%s): %v", show(f), toBig(d))
			}
		}
	}
	if listed < 100 || listed == len(ws) {
		t.Errorf("%d were listed", listed)
	}
}

// P5.7: of a number that is factored completely, all divisors are listed.
func TestAllDivisors(t *testing.T) {
	for n := int64(1); n <= 1000; n++ {
		ds, e := factor.Divisors(trial(t, big.NewInt(n), 31))
		if e != api.OK {
			t.Errorf("Divisors of %d: error %d", n, e)
		}
		for d := int64(1); d <= n; d++ {
			if n%d != 0 {
				continue
			}
			if len(ds) == 0 || !same(ds[0], num(d)) {
				t.Fatalf("%d is missing among the divisors of %d", d, n)
			}
			ds = ds[1:]
		}
		if len(ds) > 0 {
			t.Errorf("%d has too many divisors", n)
		}
	}
}

// P5.8: factorizations that contradict each other are refused.
func TestContradictions(t *testing.T) {
	for _, c := range []struct {
		f, g api.Factored
		want api.Errno
	}{
		{factored(60, powers(60, 1), nil, 0), factored(60, powers(2, 2), powers(15, 1), 0), api.ErrFact}, // 60 is no prime
		{factored(60, powers(3, 1, 4, 1), powers(5, 1), 0), factored(60, powers(2, 2, 3, 1), powers(5, 1), 0), api.ErrFact},
		{factored(60, powers(4, 1), powers(15, 1), 0), factored(60, nil, powers(2, 2, 15, 1), 0), api.ErrFact},
		{factored(210, powers(6, 1), powers(35, 1), 0), factored(210, powers(10, 1), powers(21, 1), 0), api.ErrFact},
		{factored(210, powers(6, 1), powers(35, 1), 0), factored(210, nil, powers(10, 1, 21, 1), 0), api.ErrFact},
		{factored(36, powers(36, 1), nil, 0), factored(36, nil, powers(6, 2), 0), api.ErrFact},
		{factored(60, nil, powers(60, 1), 0), factored(61, nil, powers(61, 1), 0), api.ErrArg},
		{factored(60, powers(60, 1), nil, 0), factored(120, powers(2, 3), powers(15, 1), 0), api.ErrArg}, // both would be wrong
		{factored(1, nil, nil, 0), factored(2, powers(2, 1), nil, 0), api.ErrArg},
	} {
		for _, both := range [][2]api.Factored{{c.f, c.g}, {c.g, c.f}} {
			if h, e := factor.Merge(both[0], both[1]); e != c.want || !isZero(h) {
				t.Errorf("Merge(%s, %s) = %s, %d", show(both[0]), show(both[1]), show(h), e)
			}
		}
	}
}

// P5.8: numbers out of range are refused.
func TestOutOfRange(t *testing.T) {
	f := factored(360, powers(2, 3), powers(45, 1), 2)
	for name, e := range map[string]api.Errno{
		"Trial of 0": errorOf(factor.Trial(num(0), 5)), "Trial of -360": errorOf(factor.Trial(num(-360), 5)), "Trial to -1": errorOf(factor.Trial(num(360), -1)), "Trial to 65537": errorOf(factor.Trial(num(360), 65537)),
		"Split by 0": errorOf(factor.Split(f, num(0))), "Split by -3": errorOf(factor.Split(f, num(-3))), "Settle of -1": errorOf(factor.Settle(f, -1)), "Settle of 1": errorOf(factor.Settle(f, 1)),
	} {
		if e != api.ErrArg {
			t.Errorf("%s: error %d", name, e)
		}
	}
	for _, bound := range []int{0, 2, 65536} {
		g := factored(360, powers(2, 3, 3, 2, 5, 1), nil, bound)
		if !factor.Right(g) {
			t.Errorf("%s is right", show(g))
		}
	}
	for _, bound := range []int{-1, 65537} {
		g := factored(360, powers(2, 3, 3, 2, 5, 1), nil, bound)
		if factor.Right(g) {
			t.Errorf("%s is not right", show(g))
		}
	}
}

func errorOf(_ api.Factored, e api.Errno) api.Errno { return e }
