package proof_test

import (
	"math"
	"math/big"
	"math/rand"
	"slices"
	"testing"

	"algorist/api"
	"algorist/proof"
)

// behind returns the same steps behind others.
func behind(front, l []api.Step) []api.Step {
	out := slices.Clone(front)
	for _, s := range copied(l) {
		for i := range s.Parts {
			s.Parts[i] += len(front)
		}
		out = append(out, s)
	}
	return out
}

// accepted checks that a proof of n is right, that all beginnings of it are, and that it is right behind other steps.
func accepted(t *testing.T, n *big.Int, l []api.Step) {
	t.Helper()
	if !proof.Proves(l, fromBig(n)) {
		t.Fatalf("%v is not proved: %s", n, show(l))
	}
	for k := 1; k <= len(l); k++ {
		if i, e := proof.Check(l[:k]); i != 0 || e != api.OK || !proof.Proves(l[:k], l[k-1].N) {
			t.Errorf("Check of %d steps is %d, %d: %s", k, i, e, show(l))
		}
	}
	for _, front := range [][]api.Step{steps(table(2)), steps(table(101), table(65521)), steps(table(2), minus(65537, []int{0}, 3)), steps(table(2), plus(7, []int{0}, 1, 3)), steps(table(11), byCurve(23, 0, 1, 5, 3, 9, 22)), l} {
		if m := behind(front, l); !proof.Proves(m, fromBig(n)) {
			t.Errorf("%v is not proved behind other steps: %s", n, show(m))
		}
	}
	if i, e := proof.Check(behind(steps(table(9)), l)); i != 0 || e != api.ErrProof {
		t.Errorf("Check is %d, %d behind a wrong step", i, e)
	}
	if i, e := proof.Check(behind(l, steps(table(9)))); i != len(l) || e != api.ErrProof {
		t.Errorf("Check is %d, %d before a wrong step at %d", i, e, len(l))
	}
}

// smallCurve looks for a point of a curve that proves a small prime; it returns nil if there is none.
func smallCurve(n int64) []api.Step {
	for k := int64(0); k < n*n*n; k++ {
		a, x, y := k%n, k/n%n, k/n/n
		order := infinite(n, a, x, y, 3*n)
		ps := factors(big.NewInt(order))
		b := mod(big.NewInt(y*y-x*x*x-a*x), big.NewInt(n)).Int64()
		if l := steps(table(ps[len(ps)-1].Int64()), byCurve(n, 0, a, b, x, y, order)); right(l, 1) {
			return l
		}
	}
	return nil
}

// fewest leaves out prime divisors of m as long as the step that is made with the others is right.
func fewest(t *testing.T, m *big.Int, make func(ps []*big.Int) []api.Step) []api.Step {
	t.Helper()
	ps := factors(m)
	l := make(ps)
	for i := 0; i < len(ps); {
		others := slices.Delete(slices.Clone(ps), i, i+1)
		if less := make(others); right(less, len(less)-1) {
			l, ps = less, others
		} else {
			i++
		}
	}
	return l
}

// P7.4: a prime is proved in different ways: by a table, by the number before or after it, with all primes that divide it or with few, and by points of curves; also behind other steps, as are the beginnings of its proof.
func TestKinds(t *testing.T) {
	for _, n := range primes(t) {
		if n.BitLen() <= 16 {
			accepted(t, n, steps(api.Step{Kind: api.ByTable, N: fromBig(n)}))
		}
		if n.Cmp(big.NewInt(2)) == 0 {
			continue
		}
		byMinus := func(ps []*big.Int) []api.Step {
			var m maker
			m.step(m.minus(n, ps))
			return m.l
		}
		byPlus := func(ps []*big.Int) []api.Step {
			var m maker
			m.step(m.plus(n, ps))
			return m.l
		}
		accepted(t, n, byMinus(factors(sub(n, one))))
		accepted(t, n, byPlus(factors(add(n, one))))
		accepted(t, n, fewest(t, sub(n, one), byMinus))
		accepted(t, n, fewest(t, add(n, one), byPlus))
	}
	for _, k := range knownCurves[:13] {
		accepted(t, read(t, k.n), k.proof(t))
	}
	curves := 0
	for _, n := range primesBelow(60) {
		if l := smallCurve(n); len(l) > 0 {
			accepted(t, big.NewInt(n), l)
			curves++
		}
	}
	if curves < 12 {
		t.Errorf("only %d primes below 60 were proved by curves", curves)
	}
}

// A chain of steps by curves, each of which uses the one before it.
func TestChain(t *testing.T) {
	l := steps(table(7))
	for _, x := range [][]int64{{5, 2, 1, 0, 1, 7}, {7, 3, 5, 1, 3, 7}} {
		l = append(l, byCurve(x[0], 0, x[1:]...))
	}
	l = append(l, table(11), byCurve(13, 3, 7, 6, 1, 1, 11), byCurve(23, 4, 1, 18, 0, 8, 13), byCurve(23, 3, 1, 5, 3, 9, 22), minus(47, []int{5}, 2), byCurve(23, 6, 5, 3, 0, 7, 23))
	accepted(t, big.NewInt(23), l)
	if proof.Proves(l, num(47)) || !proof.Proves(l[:8], num(47)) {
		t.Error("Proves is about the last step")
	}
}

// P7.2: whatever is tried, no composite number is proved: bases that look right for divisors of the numbers before and after it, and points of curves that are glued together from points modulo its divisors.
func TestSound(t *testing.T) {
	refused := func(n *big.Int, l []api.Step, what string) {
		t.Helper()
		if i, e := proof.Check(l); e != api.ErrProof || i != len(l)-1 || proof.Proves(l, fromBig(n)) {
			t.Errorf("Check is %d, %d for the composite number %v %s: %s", i, e, n, what, show(l))
		}
	}
	var zs []*big.Int
	for n := int64(4); n < 1500; n++ {
		if !isPrime(big.NewInt(n)) {
			zs = append(zs, big.NewInt(n))
		}
	}
	for _, n := range append(zs, composites(t)...) {
		refused(n, steps(api.Step{Kind: api.ByTable, N: fromBig(n)}), "by the table")
		if n.BitLen() > 90 {
			continue
		}
		for _, l := range forgedMinus(n) {
			refused(n, l, "by n - 1")
		}
		for _, l := range forgedPlus(n) {
			refused(n, l, "by n + 1")
		}
	}
	for _, n := range []int64{25, 35, 49, 55, 65, 77, 85, 91, 119, 121, 143, 187, 217, 221, 1001} {
		r := rand.New(rand.NewSource(n))
		for range 100 {
			a, x, y := r.Int63n(n), r.Int63n(n), r.Int63n(n)
			b := mod(big.NewInt(y*y-x*x*x-a*x), big.NewInt(n)).Int64()
			order := infinite(n, a, x, y, 4*n)
			for _, q := range append(factors(big.NewInt(order)), big.NewInt(31), big.NewInt(997)) {
				for _, m := range []int64{order, q.Int64(), order * q.Int64()} {
					refused(big.NewInt(n), steps(table(q.Int64()), byCurve(n, 0, a, b, x, y, m)), "by a curve")
				}
			}
		}
	}
}

// forgedMinus returns steps for a composite number with bases that have some of the properties.
func forgedMinus(n *big.Int) [][]api.Step {
	before := sub(n, one)
	fermat := func(b, power *big.Int) bool { return new(big.Int).Exp(b, before, n).Cmp(one) == 0 }
	conditions := []func(b, power *big.Int) bool{
		func(b, power *big.Int) bool { return coprime(sub(power, one), n) },
		func(b, power *big.Int) bool { return fermat(b, power) && power.Cmp(one) != 0 },
		func(b, power *big.Int) bool { return fermat(b, power) && coprime(sub(power, one), n) },
		fermat,
	}
	var out [][]api.Step
	for _, holds := range conditions {
		var m maker
		s := api.Step{Kind: api.ByMinus, N: fromBig(n)}
		for _, q := range factors(before) {
			for _, b := range []int64{2, 3, 5, 6, 7, 10, 11, 12, 13, 17, 19, 21, 28, 35, -1, -2, -3} {
				z := mod(big.NewInt(b), n)
				if z.Cmp(one) > 0 && holds(z, new(big.Int).Exp(z, quotient(before, q), n)) {
					s.Parts, s.Base = append(s.Parts, m.number(q)), append(s.Base, fromBig(z))
					break
				}
			}
		}
		m.step(s)
		out = append(out, m.l)
	}
	return out
}

// forgedPlus returns steps for a composite number with P and Q that have some of the properties, and the primes for which they look right.
func forgedPlus(n *big.Int) [][]api.Step {
	var out [][]api.Step
	after := add(n, one)
	ps := factors(after)
	for k := int64(0); k < 30; k++ {
		p, q := mod(big.NewInt(k%5+1), n), mod(big.NewInt(7*k+k/5+2), n)
		if n.Bit(0) == 0 || big.Jacobi(sub(mul(p, p), mul(big.NewInt(4), q)), n) != -1 {
			continue
		}
		for _, holds := range []func(z *big.Int) bool{func(z *big.Int) bool { return coprime(z, n) }, func(z *big.Int) bool { return z.Sign() != 0 }} {
			var m maker
			s := api.Step{Kind: api.ByPlus, N: fromBig(n), Base: []api.Int{fromBig(p), fromBig(q)}}
			for _, r := range ps {
				if holds(lucas(p, q, quotient(after, r), n)) {
					s.Parts = append(s.Parts, m.number(r))
				}
			}
			m.step(s)
			out = append(out, m.l)
		}
	}
	return out
}

// P7.3: primes below 2^40 have proofs, others have none: as many numbers of a range are proved as it has primes.
func TestComplete(t *testing.T) {
	for _, x := range []struct{ from, to, primes int64 }{{0, 10000, 1229}, {1000000, 1010000, 753}, {1099511617776, 1099511627776, 342}} {
		count := int64(0)
		for n := x.from; n < x.to; n++ {
			l, e := proof.Make(num(n))
			if e == api.OK && proof.Proves(l, num(n)) {
				count++
			} else if e != api.ErrNone || len(l) > 0 {
				t.Errorf("Make(%d) is %s, %d", n, show(l), e)
			}
		}
		if count != x.primes {
			t.Errorf("%d numbers from %d on are proved, not %d", count, x.from, x.primes)
		}
	}
}

// damagedNumbers returns other numbers than z, and other words.
func damagedNumbers(z, n *big.Int) []api.Int {
	var out []api.Int
	for _, y := range []*big.Int{new(big.Int), one, big.NewInt(2), add(z, one), sub(z, one), new(big.Int).Neg(z), add(z, n), sub(z, n), sub(n, z), add(z, near(32, 0)), add(z, near(64, 0)), mul(z, big.NewInt(2)), mul(z, z), sub(n, one), n} {
		out = append(out, fromBig(y))
	}
	return append(out, zeroWord(fromBig(z)), api.Int{Neg: true, Mag: fromBig(z).Mag}, minusZero)
}

// damages calls a function with changed steps, in each of which one field is another.
func damages(s api.Step, index int, visit func(api.Step)) {
	change := func(f func(s *api.Step)) { visit(with(s, f)) }
	n := toBig(s.N)
	for _, field := range []func(*api.Step) *api.Int{
		func(s *api.Step) *api.Int { return &s.N }, func(s *api.Step) *api.Int { return &s.Order },
		func(s *api.Step) *api.Int { return &s.Curve.A }, func(s *api.Step) *api.Int { return &s.Curve.B }, func(s *api.Step) *api.Int { return &s.Curve.M },
		func(s *api.Step) *api.Int { return &s.At.X }, func(s *api.Step) *api.Int { return &s.At.Y },
	} {
		for _, z := range damagedNumbers(toBig(*field(&s)), n) {
			change(func(s *api.Step) { *field(s) = z })
		}
	}
	change(func(s *api.Step) { s.At.Inf = !s.At.Inf })
	change(func(s *api.Step) { s.At = api.Point{Inf: true} })
	for kind := -1; kind <= 5; kind++ {
		change(func(s *api.Step) { s.Kind = kind })
	}
	for i, b := range s.Base {
		for _, z := range damagedNumbers(toBig(b), n) {
			change(func(s *api.Step) { s.Base[i] = z })
		}
		change(func(s *api.Step) { s.Base = slices.Delete(s.Base, i, i+1) })
	}
	change(func(s *api.Step) { s.Base = append(s.Base, num(3)) })
	change(func(s *api.Step) { s.Base = nil })
	change(func(s *api.Step) { slices.Reverse(s.Base) })
	for i := range s.Parts {
		for _, k := range []int{-1, 0, 1, index - 1, index, index + 1, math.MaxInt, math.MinInt} {
			change(func(s *api.Step) { s.Parts[i] = k })
		}
		change(func(s *api.Step) { s.Parts = slices.Delete(s.Parts, i, i+1) })
	}
	for k := range index + 1 {
		change(func(s *api.Step) { s.Parts = append(s.Parts, k) })
	}
	change(func(s *api.Step) { s.Parts = nil })
	change(func(s *api.Step) { slices.Reverse(s.Parts) })
}

// long returns a right list with steps of all kinds, some of which use steps of other kinds.
func long(t *testing.T) []api.Step {
	t.Helper()
	l := steps(
		table(2), table(3), minus(7, []int{0, 1}, 3, 3), plus(7, []int{0}, 1, 3), table(5), table(11),
		minus(65537, []int{0}, 3), byCurve(23, 5, 1, 5, 3, 9, 22), plus(29, []int{0, 1, 4}, 1, 3), minus(31, []int{1, 0}, 3, 3), byCurve(5, 2, 2, 1, 0, 1, 7), minus(43, []int{3}, 2), table(65521),
		byCurve(7, 2, 3, 5, 1, 3, 7), minus(47, []int{7}, 2), minus(11, []int{10}, 2),
	)
	var m maker
	m.step(m.plus(big.NewInt(1000003), factors(big.NewInt(1000004))))
	return append(behind(l, m.l), behind(slices.Concat(l, m.l), knownCurves[9].proof(t))[len(l)+len(m.l):]...)
}

// P7.5: after any damage, the index is that of the first wrong step.
func TestDamage(t *testing.T) {
	l := long(t)
	expect(t, "without damage", l, -1)
	wrong := make([]int, len(l)+1)
	for i, s := range l {
		damages(s, i, func(s api.Step) {
			m := slices.Clone(l)
			m[i] = s
			compare(t, m)
			k, e := proof.Check(m)
			if e == api.OK {
				k = len(l)
			}
			wrong[k]++
			m[len(m)-1] = table(4) // a second damage, behind it
			compare(t, m)
		})
	}
	for i, count := range wrong {
		if count < 10 {
			t.Errorf("only %d damages had the index %d", count, i)
		}
	}
}

// A step that stays right may become a wrong part.
func TestDamagedParts(t *testing.T) {
	expect(t, "another prime", steps(table(3), minus(65537, []int{0}, 3)), 1)
	expect(t, "another prime", steps(table(2), table(3), table(5), minus(31, []int{0, 2}, 3, 3), minus(31, []int{0, 1}, 3, 3)), -1)
	expect(t, "another prime", steps(table(2), table(7), table(5), minus(31, []int{0, 2}, 3, 3), minus(31, []int{0, 1}, 3, 3)), 4)
	expect(t, "two wrong steps", steps(table(2), table(4), table(6)), 1)
	expect(t, "two wrong steps", steps(table(2), table(3), plus(7, []int{0}, 1, 4), table(6)), 2)
	expect(t, "a right step between", steps(table(4), table(2), table(6)), 0)
	expect(t, "the last one of many", append(long(t), table(1)), len(long(t)))
}

// P7.6: what is proved is never denied.
func TestNeverDenied(t *testing.T) {
	check := func(l []api.Step) {
		t.Helper()
		if i, e := proof.Check(l); e != api.OK {
			t.Errorf("Check is %d, %d: %s", i, e, show(l))
		}
		for _, s := range l {
			for b := -2; b < 60; b++ {
				if proof.Denies(s.N, b) {
					t.Errorf("Denies(%v, %d), which is proved", toBig(s.N), b)
				}
			}
			for _, b := range []int{65537, 1 << 40, math.MaxInt, math.MinInt} {
				if proof.Denies(s.N, b) {
					t.Errorf("Denies(%v, %d), which is proved", toBig(s.N), b)
				}
			}
		}
	}
	check(long(t))
	for _, k := range knownCurves[:13] {
		check(k.proof(t))
	}
	for _, n := range primesBelow(2000) {
		check(steps(table(n)))
	}
	for _, n := range append(primes(t), composites(t)...) {
		l, e := proof.Make(fromBig(n))
		if e == api.OK {
			check(l)
		}
		denied := false
		for b := 2; b < 60; b++ {
			denied = denied || proof.Denies(fromBig(n), b)
		}
		if denied == isPrime(n) {
			t.Errorf("%v is denied: %v", n, denied)
		}
	}
}
