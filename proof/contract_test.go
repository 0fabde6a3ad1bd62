package proof_test

// P7.1: each function does what G1 to G4 say, compared with the definition, and with the examples of the chapter.

import (
	"math"
	"math/big"
	"math/rand"
	"slices"
	"testing"

	"algorist/api"
	"algorist/proof"
)

// compare checks the results for a list.
func compare(t *testing.T, l []api.Step) {
	t.Helper()
	i, e := proof.Check(l)
	if k, no := firstWrong(l); i != k || e != no {
		t.Fatalf("Check is %d, %d, want %d, %d: %s", i, e, k, no, show(l))
	}
}

// expect checks that a list is right, if wrong is negative, or that this is the index of the first wrong step.
func expect(t *testing.T, what string, l []api.Step, wrong int) {
	t.Helper()
	index, no := wrong, api.ErrProof
	if wrong < 0 {
		index, no = 0, api.OK
	}
	if i, e := proof.Check(l); i != index || e != no {
		t.Errorf("%s: Check is %d, %d, want %d, %d: %s", what, i, e, index, no, show(l))
	}
	if i, e := firstWrong(l); i != index || e != no {
		t.Errorf("%s: the definition says %d, %d: %s", what, i, e, show(l))
	}
	if len(l) > 0 && proof.Proves(l, l[len(l)-1].N) != (wrong < 0) {
		t.Errorf("%s: Proves is %v: %s", what, wrong >= 0, show(l))
	}
}

func TestExamples(t *testing.T) {
	expect(t, "7", steps(table(7)), -1)
	expect(t, "65537", steps(table(2), minus(65537, []int{0}, 3)), -1)
	expect(t, "7 by 8", steps(table(2), plus(7, []int{0}, 1, 3)), -1)
	expect(t, "7 alone", steps(plus(7, []int{0}, 1, 3)), 0)
	expect(t, "65537 alone", steps(minus(65537, []int{0}, 3)), 0)
	expect(t, "nothing", nil, 0)
	expect(t, "nothing", []api.Step{}, 0)
}

func TestTable(t *testing.T) {
	for n := int64(-10); n < 1<<16+600; n++ {
		want := n < 1<<16 && isPrime(big.NewInt(n))
		if _, e := proof.Check(steps(table(n))); (e == api.OK) != want {
			t.Errorf("a step ByTable for %d: error %d", n, e)
		}
	}
	for _, n := range []*big.Int{near(31, -1), near(32, 15), near(61, -1), near(64, 2), near(64, 13), near(89, -1), near(32, 2), near(32, 7), near(4096, 3)} {
		compare(t, steps(api.Step{Kind: api.ByTable, N: fromBig(n)}))
		compare(t, steps(api.Step{Kind: api.ByTable, N: fromBig(new(big.Int).Neg(n))}))
	}
}

// sets calls a function with sets of at most two primes, each with steps that prove them.
func sets(ps []int64, visit func(l []api.Step, parts []int)) {
	visit(nil, nil)
	for i, p := range ps {
		visit(steps(table(p)), []int{0})
		for _, q := range ps[:i] {
			visit(steps(table(q), table(p)), []int{0, 1})
			visit(steps(table(q), table(p)), []int{1, 0})
		}
	}
}

// All small numbers, with all bases for one or two parts, and some for more.
func TestMinus(t *testing.T) {
	for n := int64(-3); n <= 140; n++ {
		sets([]int64{2, 3, 5, 7, 11, 13, 23}, func(l []api.Step, parts []int) {
			if len(parts) == 0 {
				compare(t, steps(minus(n, nil)))
				return
			}
			for b := int64(-1); b <= max(n, 3)+1; b++ {
				step := minus(n, parts, b)
				if len(parts) == 2 {
					step = minus(n, parts, b, (7*b+3)%max(n+1, 4))
				}
				compare(t, append(slices.Clone(l), step))
			}
		})
	}
	for n := int64(3); n <= 31; n++ {
		for _, parts := range [][]int{{0, 1}, {1, 2}, {0, 2}} {
			for a := int64(0); a <= n; a++ {
				for b := int64(0); b <= n; b++ {
					compare(t, steps(table(2), table(3), table(5), minus(n, parts, a, b)))
				}
			}
		}
	}
	r := rand.New(rand.NewSource(1))
	for _, n := range []int64{31, 61, 211, 241, 331, 421, 2311, 2521, 30031, 9241, 65521} {
		for range 300 {
			compare(t, steps(table(2), table(3), table(5), minus(n, []int{0, 1, 2}, r.Int63n(n), r.Int63n(n), r.Int63n(n))))
		}
	}
}

// All small numbers, with all P and Q for one or two parts.
func TestPlus(t *testing.T) {
	for n := int64(-1); n <= 29; n++ {
		sets([]int64{2, 3, 5, 7}, func(l []api.Step, parts []int) {
			for p := int64(-1); p <= max(n, 1)+1; p++ {
				for q := int64(-1); q <= max(n, 1)+1; q++ {
					compare(t, append(slices.Clone(l), plus(n, parts, p, q)))
				}
			}
		})
	}
	r := rand.New(rand.NewSource(2))
	for n := int64(31); n < 1500; n += 2 {
		var l []api.Step
		var parts []int
		for i, q := range factors(big.NewInt(n + 1)) {
			l = append(l, table(q.Int64()))
			parts = append(parts, i)
		}
		for range 20 {
			compare(t, append(slices.Clone(l), plus(n, parts, r.Int63n(n), r.Int63n(n))))
		}
	}
}

// infinite returns the least k > 0 for which k times a point is at infinity, or the limit.
func infinite(n, a, x, y, limit int64) int64 {
	p := place{big.NewInt(x), big.NewInt(y)}
	r, ok := p, true
	k := int64(1)
	for k < limit && ok && r != infinity {
		r, ok = sum(big.NewInt(a), big.NewInt(n), r, p)
		k++
	}
	return k
}

// Small numbers, with points of curves that go through them, and multiples of the right orders among others.
func TestCurve(t *testing.T) {
	r := rand.New(rand.NewSource(3))
	qs := primesBelow(60)
	accepted := 0
	for n := int64(2); n <= 55; n++ {
		samples := 30
		if n%2*(n%3) != 0 {
			samples = 400
		}
		for range samples {
			a, x, y := r.Int63n(n), r.Int63n(n), r.Int63n(n)
			b := mod(big.NewInt(y*y-x*x*x-a*x), big.NewInt(n)).Int64()
			order := infinite(n, a, x, y, 2*n+10)
			q := qs[r.Intn(len(qs))]
			if ps := factors(big.NewInt(order)); r.Intn(3) > 0 {
				q = ps[len(ps)-1].Int64()
			}
			for _, m := range []int64{order, 2 * order, q, q * order, order + 1, -order, 0, order / 2} {
				l := steps(table(q), byCurve(n, 0, a, b, x, y, m))
				compare(t, l)
				if right(l, 1) {
					accepted++
				}
			}
		}
	}
	if accepted < 1000 {
		t.Errorf("only %d steps were right", accepted)
	}
}

// Proofs of long numbers; that of P-256 is by its curve, whose order is a prime.
func TestLongProofs(t *testing.T) {
	for _, k := range knownCurves {
		expect(t, k.n, k.proof(t), -1)
	}
	for _, e := range []uint{3, 5, 7, 13, 17, 19, 31, 61, 89, 107, 127, 521, 607} {
		n := near(e, -1)
		s := api.Step{Kind: api.ByPlus, N: fromBig(n), Parts: []int{0}, Base: []api.Int{num(2), fromBig(sub(n, big.NewInt(2)))}}
		expect(t, "a prime of Mersenne", steps(table(2), s), -1)
	}
	for _, e := range []uint{1, 2, 5, 6, 8, 12, 18, 30, 36, 41, 66, 189, 201, 209, 276, 353, 408, 438, 534} {
		n := add(mul(big.NewInt(3), near(e, 0)), one)
		var m maker
		m.step(m.minus(n, []*big.Int{big.NewInt(2)}))
		if e > 1 { // 2^2 > 7 does not hold
			expect(t, "3 times a power of 2, plus 1", m.l, -1)
		} else {
			expect(t, "7", m.l, 1)
		}
	}
	p := read(t, "0xffffffff00000001000000000000000000000000ffffffffffffffffffffffff")
	order := read(t, "0xffffffff00000000ffffffffffffffffbce6faada7179e84f3b9cac2fc632551")
	c := api.Mod{A: fromBig(sub(p, big.NewInt(3))), B: fromBig(read(t, "0x5ac635d8aa3a93e7b3ebbd55769886bc651d06b0cc53b0f63bce3c3e27d2604b")), M: fromBig(p)}
	x, y := read(t, "0x6b17d1f2e12c4247f8bce6e563a440f277037d812deb33a0f4a13945d898c296"), read(t, "0x4fe342e2fe1a7f9b8ee7eb4a7c0f9e162bce33576b315ececbb6406837bf51f5")
	var m maker
	m.onCurve(p, order, c, api.Point{X: fromBig(x), Y: fromBig(y)}, order)
	expect(t, "P-256", m.l, -1)
}

func TestProves(t *testing.T) {
	l := steps(table(7), table(2), plus(7, []int{1}, 1, 3), table(5))
	for n := int64(-8); n < 12; n++ {
		for k := range 5 {
			want := k > 0 && same(num(n), l[max(k, 1)-1].N)
			if proof.Proves(l[:k], num(n)) != want {
				t.Errorf("Proves(%s, %d) is %v", show(l[:k]), n, !want)
			}
		}
	}
	if proof.Proves(steps(table(4), table(5)), num(5)) || proof.Proves(steps(table(4)), num(4)) || proof.Proves(steps(table(5), table(4)), num(4)) || proof.Proves(nil, num(0)) || proof.Proves(nil, num(2)) || proof.Proves(steps(table(-5)), num(5)) || proof.Proves(steps(api.Step{}), num(0)) {
		t.Error("Proves accepts a list that is not right")
	}
	n, longer := near(89, -1), near(96, 0)
	good := steps(table(2), api.Step{Kind: api.ByPlus, N: fromBig(n), Parts: []int{0}, Base: []api.Int{num(2), fromBig(sub(n, big.NewInt(2)))}})
	for _, z := range []*big.Int{new(big.Int).Neg(n), add(n, one), sub(n, one), add(n, near(32, 0)), add(n, longer), mod(n, near(64, 0)), big.NewInt(2)} {
		if proof.Proves(good, fromBig(z)) {
			t.Errorf("Proves accepts %v", z)
		}
	}
	if !proof.Proves(good, fromBig(n)) {
		t.Errorf("Proves does not accept %v", n)
	}
}

// checkMake checks the result of Make for a number.
func checkMake(t *testing.T, n *big.Int) {
	t.Helper()
	l, e := proof.Make(fromBig(n))
	switch {
	case e == api.OK && isPrime(n):
		if i, no := firstWrong(l); no != api.OK || !same(l[len(l)-1].N, fromBig(n)) {
			t.Errorf("step %d of Make(%v) is wrong: %s", i, n, show(l))
		}
		if !proof.Proves(l, fromBig(n)) {
			t.Errorf("Make(%v) is no proof: %s", n, show(l))
		}
	case e != api.ErrNone || len(l) != 0 || isPrime(n) && n.BitLen() <= 40:
		t.Errorf("Make(%v) is %s, %d", n, show(l), e)
	}
}

func TestMake(t *testing.T) {
	for n := int64(-300); n < 20000; n++ {
		checkMake(t, big.NewInt(n))
	}
	for d := int64(-600); d < 600; d++ {
		checkMake(t, near(16, d))
		checkMake(t, near(32, d))
		checkMake(t, near(40, d))
		checkMake(t, near(64, d))
	}
	r := rand.New(rand.NewSource(4))
	for bits := uint(17); bits <= 41; bits++ {
		for range 100 {
			checkMake(t, add(near(bits-1, 0), big.NewInt(r.Int63n(1<<(bits-1)))))
		}
	}
}

// Primes below 2^40 for which the number before has two long divisors or a long one, or also the number after, or the least base is great, and long chains of them; and greater ones, for which there may be steps or not.
func TestMakeHard(t *testing.T) {
	for _, n := range []int64{
		1099511627689, 1099140317399, 1099193705759, 1099282675847, 1099511627339, 1099511623139, 1099511622779, 1099511621939, 974664149483, 1022409674123, 997935705707, 1021630409483, 952055838563, 1097901218867, 120293879, 131486759, 196265095009,
		89, 1122659, 1122659<<6 + 63, 19099919<<7 + 127, 85864769<<8 + 255, 65537, 65539, 65543, 4294967291, 4294967311, 281474976710597,
	} {
		if !isPrime(big.NewInt(n)) {
			t.Errorf("%d is no prime", n)
		}
		checkMake(t, big.NewInt(n))
	}
	for _, n := range primes(t) {
		checkMake(t, n)
	}
	for _, e := range []uint{107, 127, 521, 607, 1279} {
		checkMake(t, near(e, -1))
	}
	for _, k := range knownCurves {
		checkMake(t, read(t, k.n))
	}
	for d := int64(1); d < 300; d++ {
		checkMake(t, near(80, d))
	}
	p := near(255, -19)
	checkMake(t, p)
	checkMake(t, add(near(1024, 0), big.NewInt(643)))
}

func TestMakeComposites(t *testing.T) {
	zs := append(composites(t), new(big.Int), one, near(4096, 0), near(4096, -1), near(4095, 0), mul(near(607, -1), near(521, -1)))
	for _, z := range zs {
		for _, n := range []*big.Int{z, new(big.Int).Neg(z)} {
			if l, e := proof.Make(fromBig(n)); e != api.ErrNone || len(l) != 0 {
				t.Errorf("Make(%v) is %s, %d", n, show(l), e)
			}
		}
	}
	for _, p := range primes(t) {
		if l, e := proof.Make(fromBig(new(big.Int).Neg(p))); e != api.ErrNone || len(l) != 0 {
			t.Errorf("Make(-%v) is %s, %d", p, show(l), e)
		}
		if l, e := proof.Make(fromBig(mul(p, p))); e != api.ErrNone || len(l) != 0 {
			t.Errorf("Make(%v^2) is %s, %d", p, show(l), e)
		}
	}
}

// denied follows the definition of Denies.
func denied(n *big.Int, b int) bool {
	if n.Cmp(big.NewInt(2)) <= 0 || n.Bit(0) == 0 {
		return n.Cmp(big.NewInt(2)) > 0
	}
	base := big.NewInt(int64(b))
	if b < 1 || divides(n, base) {
		return false
	}
	before := sub(n, one)
	s := before.TrailingZeroBits()
	z := new(big.Int).Exp(base, new(big.Int).Rsh(before, s), n)
	if z.Cmp(one) == 0 {
		return false
	}
	for range s {
		if z.Cmp(before) == 0 {
			return false
		}
		z = mod(mul(z, z), n)
	}
	return true
}

func TestDenies(t *testing.T) {
	check := func(n *big.Int, b int) {
		t.Helper()
		if want := denied(n, b); proof.Denies(fromBig(n), b) != want {
			t.Errorf("Denies(%v, %d) is %v", n, b, !want)
		}
	}
	for n := int64(-30); n < 250; n++ {
		for b := -3; b < 300; b++ {
			check(big.NewInt(n), b)
		}
	}
	zs := append(composites(t), primes(t)...)
	zs = append(zs, near(32, 0), near(64, 0), near(4096, 0), near(1000, 2), near(521, -1), near(1023, 1))
	for _, z := range zs {
		for _, b := range []int{math.MinInt, -2, -1, 0, 1, 2, 3, 5, 7, 23, 41, 65537, 1 << 32, 1<<61 - 1, math.MaxInt} {
			check(z, b)
			check(new(big.Int).Neg(z), b)
		}
	}
	for _, x := range []struct {
		n    int64
		b    int
		want bool
	}{{2, 2, false}, {4, 2, true}, {4, 0, true}, {6, -5, true}, {1, 2, false}, {0, 2, false}, {-4, 2, false}, {-9, 2, false}, {9, 2, true}, {9, 9, false}, {9, 8, false}, {9, 0, false}, {9, -2, false}, {2047, 2, false}, {2047, 3, true}, {7, 3, false}} {
		if proof.Denies(num(x.n), x.b) != x.want {
			t.Errorf("Denies(%d, %d) is %v", x.n, x.b, !x.want)
		}
	}
}
