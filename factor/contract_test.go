package factor_test

// P5.1: each function does what E1 to E8 say, compared with the definitions, with math/big, and with the examples of the chapter.

import (
	"math"
	"math/big"
	"math/rand"
	"slices"
	"testing"

	"algorist/api"
	"algorist/factor"
)

func checkRight(t *testing.T, f api.Factored) {
	t.Helper()
	if got, want := factor.Right(f), right(f); got != want {
		t.Errorf("Right(%s) = %v", show(f), got)
	}
}

func TestRight(t *testing.T) {
	for _, f := range []api.Factored{
		factored(1, nil, nil, 0), factored(1, nil, nil, 65536), factored(12, powers(2, 2, 3, 1), nil, 65536), factored(12, powers(2, 2, 3, 1), nil, 0), factored(12, nil, powers(12, 1), 0), factored(12, nil, powers(12, 1), 1),
		factored(12, nil, powers(3, 1, 4, 1), 1), factored(12, powers(3, 1), powers(2, 2), 0), factored(12, powers(3, 1), powers(4, 1), 1), factored(12, powers(4, 1), powers(3, 1), 2), factored(12, powers(12, 1), nil, 9), // P need not be primes
		factored(45, nil, powers(45, 1), 2), factored(45, powers(3, 2), powers(5, 1), 4), factored(1225, nil, powers(35, 2), 4), factored(49, nil, powers(49, 1), 6), factored(7, nil, powers(7, 1), 6), factored(65537, nil, powers(65537, 1), 65536),
		factored(65537*65537, nil, powers(65537*65537, 1), 65536), factored(1<<62, powers(2, 62), nil, 5), factored(1<<62, powers(4, 31), nil, 5), factored(1<<62, nil, powers(2, 62), 1),
	} {
		if !right(f) || !factor.Right(f) {
			t.Errorf("%s is right", show(f))
		}
	}
	for _, f := range []api.Factored{
		{}, factored(0, nil, nil, 0), factored(-1, nil, nil, 0), factored(-6, powers(6, 1), nil, 0), factored(2, nil, nil, 0), factored(1, powers(1, 1), nil, 0), factored(1, nil, powers(1, 1), 0), factored(1, powers(2, 0), nil, 0), factored(1, nil, powers(7, 0), 0),
		factored(1, nil, nil, -1), factored(1, nil, nil, 65537), factored(1, nil, nil, math.MaxInt), factored(1, nil, nil, math.MinInt), factored(0, powers(2, 1), nil, 0), factored(0, nil, powers(0, 1), 0),
		factored(12, powers(3, 1, 2, 2), nil, 0), factored(12, nil, powers(4, 1, 3, 1), 0), factored(4, powers(2, 1, 2, 1), nil, 0), factored(4, nil, powers(2, 1, 2, 1), 0), factored(4, powers(2, 1), powers(2, 1), 0), // orders
		factored(36, powers(6, 1), powers(6, 1), 0), factored(24, powers(2, 1, 12, 1), nil, 0), factored(24, nil, powers(4, 1, 6, 1), 0), factored(24, powers(6, 1), powers(4, 1), 0), factored(8, powers(2, 1, 4, 1), nil, 0), factored(8, powers(4, 1), powers(2, 1), 0), // common divisors
		factored(12, nil, powers(12, 1), 2), factored(45, nil, powers(45, 1), 3), factored(45, nil, powers(9, 1, 5, 1), 4), factored(7, nil, powers(7, 1), 7), factored(49, nil, powers(49, 1), 7), factored(65537*65521, nil, powers(65537*65521, 1), 65521), factored(1225, powers(5, 2), powers(49, 1), 65536), // bounds
		factored(12, powers(2, 1, 3, 1), nil, 0), factored(12, powers(2, 3, 3, 1), nil, 0), factored(12, powers(2, 2), nil, 0), factored(12, powers(2, 2, 5, 1), nil, 0), factored(12, powers(2, 2, 3, 1), powers(5, 1), 0), factored(12, nil, powers(6, 1), 0), factored(12, nil, powers(24, 1), 0), factored(12, powers(2, 2), powers(9, 1), 0), // products
		factored(12, powers(2, -1, 3, 1), nil, 0), factored(4, powers(-2, 2), nil, 0), factored(6, powers(-6, 1, -1, 1), nil, 0), factored(12, powers(2, math.MaxInt, 3, 1), nil, 0), factored(12, powers(2, math.MinInt, 3, 1), nil, 0), factored(4, powers(2, 2, 3, 0), nil, 0), factored(1, powers(2, 1<<32), nil, 0),
		{N: api.Int{Mag: []uint32{6, 0}}, P: powers(6, 1)}, {N: num(6), P: []api.Power{{P: api.Int{Mag: []uint32{6, 0}}, K: 1}}}, {N: num(6), Rest: []api.Power{{P: api.Int{Mag: []uint32{6, 0}}, K: 1}}}, {N: num(1), P: []api.Power{{P: api.Int{Neg: true}, K: 1}}}, {N: api.Int{Neg: true}},
	} {
		if right(f) || factor.Right(f) {
			t.Errorf("%s is not right", show(f))
		}
	}
}

// Small changes of right factorizations, most of which make them wrong.
func TestRightOfDamage(t *testing.T) {
	r := rand.New(rand.NewSource(1))
	_, fs := sources(t, 2, 300, false)
	wrong := 0
	for _, f := range fs {
		checkRight(t, f)
		if !factor.Right(f) {
			t.Errorf("%s is right", show(f))
		}
		for range 12 {
			g := damaged(r, f)
			checkRight(t, g)
			if !right(g) {
				wrong++
			}
		}
	}
	if wrong < 1000 {
		t.Errorf("only %d were wrong", wrong)
	}
}

// damaged changes one thing of a copy.
func damaged(r *rand.Rand, f api.Factored) api.Factored {
	f.P, f.Rest = slices.Clone(f.P), slices.Clone(f.Rest)
	list := &f.P
	if r.Intn(2) == 0 {
		list = &f.Rest
	}
	if len(*list) == 0 {
		f.Bound = r.Intn(65540)
		return f
	}
	i := r.Intn(len(*list))
	q := &(*list)[i]
	switch r.Intn(8) {
	case 0:
		q.K += 1 - 2*r.Intn(2)
	case 1:
		q.P = fromBig(new(big.Int).Add(toBig(q.P), big.NewInt(int64(1-2*r.Intn(2)))))
	case 2:
		*list = slices.Delete(*list, i, i+1)
	case 3:
		*list = append(*list, *q)
	case 4:
		f.N = fromBig(mul(toBig(f.N), toBig(q.P)))
	case 5:
		f.P, f.Rest = f.Rest, f.P
	case 6:
		f.Bound = int(min(1<<16, toBig(q.P).Uint64()))
	case 7:
		slices.Reverse(*list)
	}
	return f
}

// checkTrial compares with division by all numbers up to the bound.
func checkTrial(t *testing.T, n *big.Int, bound int) {
	t.Helper()
	got, e := factor.Trial(fromBig(n), bound)
	if n.Sign() <= 0 || bound < 0 || bound > 65536 {
		if e != api.ErrArg || !isZero(got) {
			t.Errorf("Trial(%v, %d) = %s, %d", n, bound, show(got), e)
		}
		return
	}
	var zs []*big.Int
	left := new(big.Int).Set(n)
	for d := int64(2); d <= int64(bound); d++ {
		if p := big.NewInt(d); divides(p, left) {
			zs = append(zs, p)
			left.Quo(left, pow(p, valuation(left, p)))
		}
	}
	isPrime := isIn(zs)
	if left.Cmp(one) != 0 {
		zs = append(zs, left)
	}
	if want := built(n, bound, zs, isPrime); e != api.OK || !sameFactored(got, want) {
		t.Errorf("Trial(%v, %d) = %s, %d, want %s", n, bound, show(got), e, show(want))
	}
}

func TestTrial(t *testing.T) {
	for n := int64(-3); n < 700; n++ {
		for bound := -2; bound < 40; bound++ {
			checkTrial(t, big.NewInt(n), bound)
		}
	}
	_, fs := sources(t, 3, 60, false)
	bounds := []int{0, 1, 2, 22, 23, 100, 101, 65520, 65521, 65522, 65535, 65536}
	for i, f := range fs {
		checkTrial(t, toBig(f.N), bounds[i%len(bounds)])
	}
	for _, n := range []int64{0, -1, -12} {
		checkTrial(t, big.NewInt(n), 10)
	}
	for _, bound := range []int{-1, 65537, 1 << 20, math.MaxInt, math.MinInt} {
		checkTrial(t, big.NewInt(360), bound)
		checkTrial(t, new(big.Int), bound)
	}
}

// Numbers around squares of bounds, where it is decided whether the rest is a prime.
func TestTrialAroundSquares(t *testing.T) {
	for _, bound := range []int{15, 16, 17, 255, 256, 257, 65520, 65521, 65535, 65536} {
		b := big.NewInt(int64(bound))
		square := mul(b, b)
		for d := int64(-3); d <= int64(2*bound+4); d += 1 + int64(bound/5) {
			checkTrial(t, new(big.Int).Add(square, big.NewInt(d)), bound)
		}
		next := new(big.Int).Add(b, one)
		checkTrial(t, mul(next, next), bound)
		checkTrial(t, new(big.Int).Sub(mul(next, next), one), bound)
	}
	for _, n := range []*big.Int{near(31, -1), near(32, 15), near(33, 17), mul(near(16, 1), near(16, 1)), mul(near(16, 1), near(16, 3)), mul(near(16, -15), near(16, 1)), mul(near(16, -15), near(16, -17)), near(64, 13), near(61, -1), near(4096, 0), near(4096, -1), near(4096, 1)} {
		for _, bound := range []int{0, 1, 2, 3, 65520, 65521, 65536} {
			checkTrial(t, n, bound)
		}
	}
}

// checkSplit compares with the definition of a base.
func checkSplit(t *testing.T, r *rand.Rand, f api.Factored, d *big.Int) {
	t.Helper()
	got, e := factor.Split(f, fromBig(d))
	old := numbers(f.Rest)
	all := slices.Clone(old)
	if d.Cmp(one) > 0 {
		all = append(all, d)
	}
	var rest []*big.Int
	for _, b := range baseOf(r, all) {
		if slices.ContainsFunc(old, func(z *big.Int) bool { return divides(b, z) }) {
			rest = append(rest, b)
		}
	}
	if slices.EqualFunc(rest, old, func(a, b *big.Int) bool { return a.Cmp(b) == 0 }) {
		if e != api.ErrNone || !isZero(got) {
			t.Errorf("Split(%s, %v) = %s, %d", show(f), d, show(got), e)
		}
		return
	}
	ps := numbers(f.P)
	rest = append(rest, ps...)
	slices.SortFunc(rest, (*big.Int).Cmp)
	if want := built(toBig(f.N), f.Bound, rest, isIn(ps)); e != api.OK || !sameFactored(got, want) {
		t.Errorf("Split(%s, %v) = %s, %d, want %s", show(f), d, show(got), e, show(want))
	}
}

func TestSplit(t *testing.T) {
	r := rand.New(rand.NewSource(4))
	ws, fs := sources(t, 5, 500, false)
	for i, f := range fs {
		checkSplit(t, r, f, one)
		checkSplit(t, r, f, big.NewInt(2+r.Int63n(60)))
		d, w := big.NewInt(1+r.Int63n(3)), ws[i]
		for j, p := range w.ps {
			d = mul(d, pow(p, r.Intn(w.ks[j]+3)))
		}
		checkSplit(t, r, f, d)
		checkSplit(t, r, f, toBig(f.N))
		for _, z := range numbers(f.P, f.Rest) {
			checkSplit(t, r, f, z)
			checkSplit(t, r, f, mul(z, z))
		}
	}
	for _, d := range []int64{0, -1, -15} {
		for _, f := range []api.Factored{trial(t, big.NewInt(360), 2), trial(t, one, 0)} {
			if got, e := factor.Split(f, num(d)); e != api.ErrArg || !isZero(got) {
				t.Errorf("Split(%s, %d) = %s, %d", show(f), d, show(got), e)
			}
		}
	}
	checkSplit(t, r, factored(1<<62, nil, powers(1<<62, 1), 0), big.NewInt(2))
	checkSplit(t, r, factored(1<<62, nil, powers(1<<62, 1), 0), big.NewInt(1<<40))
	checkSplit(t, r, factored(180, powers(2, 2), powers(45, 1), 2), big.NewInt(30))   // 2 divides N, but no number of Rest
	checkSplit(t, r, factored(1155, nil, powers(5, 1, 231, 1), 1), big.NewInt(22))    // 5 is a prime, but Rest keeps it
	checkSplit(t, r, factored(1155, nil, powers(15, 1, 77, 1), 2), big.NewInt(33))    // 5 and 7 become primes, though only 3 and 11 are divisors of 33
	checkSplit(t, r, factored(5*121, nil, powers(5, 1, 121, 1), 2), big.NewInt(1331)) // 5 becomes a prime, as 121 is split
}

func TestSettle(t *testing.T) {
	_, fs := sources(t, 6, 200, false)
	for _, f := range append(fs, factored(1155, powers(7, 1), powers(5, 1, 33, 1), 2)) {
		for i := range f.Rest {
			want := f
			want.P = append(slices.Clone(f.P), f.Rest[i])
			slices.SortFunc(want.P, func(a, b api.Power) int { return toBig(a.P).Cmp(toBig(b.P)) })
			want.Rest = slices.Delete(slices.Clone(f.Rest), i, i+1)
			if got, e := factor.Settle(f, i); e != api.OK || !sameFactored(got, want) || !right(got) {
				t.Errorf("Settle(%s, %d) = %s, %d", show(f), i, show(got), e)
			}
		}
		for _, i := range []int{-1, len(f.Rest), len(f.Rest) + 1, math.MaxInt, math.MinInt} {
			if got, e := factor.Settle(f, i); e != api.ErrArg || !isZero(got) {
				t.Errorf("Settle(%s, %d) = %s, %d", show(f), i, show(got), e)
			}
		}
	}
}

// checkMerge compares with the definition of a base; it reports whether they could be merged.
func checkMerge(t *testing.T, r *rand.Rand, f, g api.Factored) bool {
	t.Helper()
	got, e := factor.Merge(f, g)
	ps := numbers(f.P, g.P)
	all := baseOf(r, numbers(f.P, f.Rest, g.P, g.Rest))
	for _, p := range ps {
		if !isIn(all)(p) {
			if e != api.ErrFact || !isZero(got) {
				t.Errorf("Merge(%s, %s) = %s, %d", show(f), show(g), show(got), e)
			}
			return false
		}
	}
	if want := built(toBig(f.N), max(f.Bound, g.Bound), all, isIn(ps)); e != api.OK || !sameFactored(got, want) || !right(got) {
		t.Errorf("Merge(%s, %s) = %s, %d, want %s", show(f), show(g), show(got), e, show(want))
	}
	return true
}

func TestMerge(t *testing.T) {
	r := rand.New(rand.NewSource(7))
	for _, primesOnly := range []bool{false, true} {
		ws, fs := sources(t, 8, 500, primesOnly)
		merged := 0
		for i, f := range fs {
			for range 3 {
				if checkMerge(t, r, f, randomRight(r, ws[i], primesOnly)) {
					merged++
				}
			}
		}
		if merged < 300 || primesOnly && merged < 1500 {
			t.Errorf("only %d were merged", merged)
		}
	}
	f, g := factored(60, nil, powers(60, 1), 0), factored(60, powers(2, 2), powers(15, 1), 0)
	checkMerge(t, r, f, g)
	checkMerge(t, r, factored(36, nil, powers(36, 1), 0), factored(36, nil, powers(6, 2), 0))
	checkMerge(t, r, factored(36, powers(36, 1), nil, 7), factored(36, nil, powers(6, 2), 0))
	checkMerge(t, r, factored(1225, powers(35, 2), nil, 0), factored(1225, nil, powers(35, 2), 4))
	checkMerge(t, r, factored(1, nil, nil, 5), factored(1, nil, nil, 7))
}

// checkSearch checks what E6 promises; it returns the result.
func checkSearch(t *testing.T, f api.Factored, steps int) api.Factored {
	t.Helper()
	g := factor.Search(f, steps)
	if !right(g) || !refines(g, f) || g.Bound != f.Bound {
		t.Fatalf("Search(%s, %d) = %s", show(f), steps, show(g))
	}
	for _, q := range f.P {
		if !slices.ContainsFunc(g.P, func(x api.Power) bool { return samePower(x, q) }) {
			t.Errorf("Search(%s, %d) = %s: %v is missing", show(f), steps, show(g), toBig(q.P))
		}
	}
	isOld := isIn(numbers(f.P))
	for _, p := range numbers(g.P) {
		if !isOld(p) && !p.ProbablyPrime(20) {
			t.Errorf("Search(%s, %d) = %s: %v is no prime", show(f), steps, show(g), p)
		}
	}
	for _, z := range numbers(g.Rest) {
		if steps >= 1<<21 && z.BitLen() <= 40 {
			t.Errorf("Search(%s, %d) = %s: %v is left", show(f), steps, show(g), z)
		}
	}
	return g
}

func TestSearch(t *testing.T) {
	_, fs := sources(t, 9, 120, false)
	for i, f := range fs {
		checkSearch(t, f, []int{1 << 21, 1<<21 + 1, 1 << 22}[i%3])
		checkSearch(t, f, []int{-1, 0, 1, 2, 10, 64, 1000, 1 << 12, 1 << 17, 1<<21 - 1, math.MinInt}[i%11])
	}
	checkSearch(t, factored(1, nil, nil, 9), 1<<21)
}

func TestOmega(t *testing.T) {
	_, fs := sources(t, 10, 300, false)
	for _, f := range append(fs, factored(8, nil, powers(8, 1), 0), factored(8, nil, powers(8, 1), 1), factored(7, nil, powers(7, 1), 1), factored(9, nil, powers(9, 1), 2), factored(49, nil, powers(49, 1), 6), factored(121, nil, powers(121, 1), 6), factored(343, nil, powers(343, 1), 6)) {
		b, least, most := big.NewInt(int64(max(2, f.Bound+1))), len(f.P)+len(f.Rest), len(f.P)
		for _, z := range numbers(f.Rest) {
			for power := b; power.Cmp(z) <= 0; power = mul(power, b) {
				most++
			}
		}
		if gotLeast, gotMost := factor.Omega(f); gotLeast != least || gotMost != most {
			t.Errorf("Omega(%s) = %d, %d, want %d, %d", show(f), gotLeast, gotMost, least, most)
		}
	}
	for n := uint(1); n < 300; n += 7 {
		for d := int64(-1); d <= 1; d++ {
			z := near(n, d)
			if z.Cmp(one) == 0 {
				continue
			}
			f := api.Factored{N: fromBig(z), Rest: []api.Power{{P: fromBig(z), K: 1}}}
			if least, most := factor.Omega(f); least != 1 || most != z.BitLen()-1 {
				t.Errorf("Omega(%s) = %d, %d", show(f), least, most)
			}
		}
	}
}

// checkDivisors compares with all products of powers.
func checkDivisors(t *testing.T, f api.Factored) {
	t.Helper()
	got, e := factor.Divisors(f)
	want := []*big.Int{one}
	for _, q := range f.P {
		if len(want) > 4000 {
			break
		}
		for _, z := range want {
			for k := 1; k <= q.K; k++ {
				want = append(want, mul(z, pow(toBig(q.P), k)))
			}
		}
	}
	slices.SortFunc(want, (*big.Int).Cmp)
	no := api.OK
	if len(f.Rest) > 0 {
		want, no = nil, api.ErrNone
	} else if len(want) > 4000 {
		want, no = nil, api.ErrBig
	}
	if e != no || !slices.EqualFunc(got, want, func(a api.Int, b *big.Int) bool { return same(a, fromBig(b)) }) {
		t.Errorf("Divisors(%s) has %d numbers instead of %d, and the error %d", show(f), len(got), len(want), e)
	}
}

func TestDivisors(t *testing.T) {
	ws, fs := sources(t, 11, 200, false)
	for i, f := range fs {
		checkDivisors(t, f)
		g := api.Factored{N: f.N}
		for j, p := range ws[i].ps {
			g.P = append(g.P, api.Power{P: fromBig(p), K: ws[i].ks[j]})
		}
		slices.SortFunc(g.P, func(a, b api.Power) int { return toBig(a.P).Cmp(toBig(b.P)) })
		checkDivisors(t, g)
	}
	for n := int64(1); n < 400; n++ {
		checkDivisors(t, trial(t, big.NewInt(n), 20))
	}
	for _, k := range []int{1, 3998, 3999, 4000, 5000} { // 4000 divisors are allowed
		checkDivisors(t, api.Factored{N: fromBig(near(uint(k), 0)), P: powers(2, int64(k))})
		checkDivisors(t, api.Factored{N: fromBig(mul(near(uint(k), 0), big.NewInt(3))), P: powers(2, int64(k)), Rest: powers(3, 1)})
	}
	checkDivisors(t, api.Factored{N: fromBig(mul(near(1999, 0), big.NewInt(3))), P: powers(2, 1999, 3, 1)})
	checkDivisors(t, api.Factored{N: fromBig(mul(near(1332, 0), big.NewInt(9))), P: powers(2, 1332, 3, 2)})
	checkDivisors(t, api.Factored{N: fromBig(mul(near(1333, 0), big.NewInt(9))), P: powers(2, 1333, 3, 2)})
}

// The examples of the chapter.
func TestExamples(t *testing.T) {
	first := trial(t, big.NewInt(360), 2)
	if want := factored(360, powers(2, 3), powers(45, 1), 2); !sameFactored(first, want) {
		t.Errorf("Trial(360, 2) = %s", show(first))
	}
	if f, want := trial(t, big.NewInt(360), 4), factored(360, powers(2, 3, 3, 2, 5, 1), nil, 4); !sameFactored(f, want) {
		t.Errorf("Trial(360, 4) = %s", show(f))
	}
	if f, e := factor.Split(first, num(15)); e != api.OK || !sameFactored(f, factored(360, powers(2, 3, 3, 2, 5, 1), nil, 2)) {
		t.Errorf("Split of 360 by 15 = %s, %d", show(f), e)
	}
	f, g := factored(60, nil, powers(60, 1), 0), factored(60, powers(2, 2), powers(15, 1), 0)
	if h, e := factor.Merge(f, g); e != api.OK || !sameFactored(h, g) {
		t.Errorf("Merge of 60 = %s, %d", show(h), e)
	}
}
