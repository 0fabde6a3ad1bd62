package proof_test

import (
	"math"
	"math/big"
	"math/rand"
	"slices"
	"testing"

	"algorist/api"
	"algorist/proof"
)

// withRoom returns the same number, with three words of 5 behind its size.
func withRoom(a api.Int) api.Int {
	return api.Int{Neg: a.Neg, Mag: append(slices.Clone(a.Mag), 5, 5, 5)[:len(a.Mag)]}
}

// numbers returns the places of all numbers of a step.
func numbers(s *api.Step) []*api.Int {
	out := []*api.Int{&s.N, &s.Order, &s.Curve.A, &s.Curve.B, &s.Curve.M, &s.At.X, &s.At.Y}
	for i := range s.Base {
		out = append(out, &s.Base[i])
	}
	return out
}

// stepsWithRoom returns the same steps, with others behind the end of each slice.
func stepsWithRoom(l []api.Step) []api.Step {
	out := append(copied(l), table(5), table(5))[:len(l)]
	for i := range out {
		s := &out[i]
		s.Parts = append(s.Parts, 7, 7)[:len(s.Parts)]
		s.Base = append(s.Base, num(5), num(5))[:len(s.Base)]
		for _, a := range numbers(s) {
			*a = withRoom(*a)
		}
	}
	return out
}

func sameStep(s, u api.Step) bool {
	if s.Kind != u.Kind || s.At.Inf != u.At.Inf || !slices.Equal(s.Parts, u.Parts) || len(s.Base) != len(u.Base) {
		return false
	}
	return slices.EqualFunc(numbers(&s), numbers(&u), func(a, b *api.Int) bool { return same(*a, *b) })
}

// roomKept reports whether what is behind the ends of all slices is as it was.
func roomKept(l []api.Step) bool {
	n := len(l)
	for i := range l {
		s := &l[i]
		p, b := len(s.Parts), len(s.Base)
		if !slices.Equal(s.Parts[p:p+2], []int{7, 7}) || !same(s.Base[b : b+1][0], num(5)) || !same(s.Base[b+1 : b+2][0], num(5)) {
			return false
		}
		for _, a := range numbers(s) {
			m := len(a.Mag)
			if !slices.Equal(a.Mag[m:m+3], []uint32{5, 5, 5}) {
				return false
			}
		}
	}
	return sameStep(l[n : n+2][0], table(5)) && sameStep(l[n : n+2][1], table(5))
}

// P2 and G5: the arguments stay as they are, also behind the ends of their slices; equal arguments have equal results.
func TestArgumentsAreKept(t *testing.T) {
	lists := append(examples(), long(t), steps(table(2), minus(65537, []int{1}, 2)), steps(table(9)), nil)
	lists = append(lists, forgedMinus(big.NewInt(561))...)
	lists = append(lists, forgedPlus(big.NewInt(455))...)
	for _, l := range lists {
		x, n := stepsWithRoom(l), withRoom(num(7))
		if len(l) > 0 {
			n = withRoom(l[len(l)-1].N)
		}
		i, e := proof.Check(x)
		k, no := proof.Check(l)
		if again, yes := proof.Check(x); i != k || e != no || i != again || e != yes || proof.Proves(x, n) != (e == api.OK) {
			t.Errorf("other results for %s", show(l))
		}
		if !slices.EqualFunc(x, l, sameStep) || !roomKept(x) || !slices.Equal(n.Mag[len(n.Mag):len(n.Mag)+3], []uint32{5, 5, 5}) {
			t.Errorf("%s has become %s", show(l), show(x))
		}
	}
	for _, z := range append(primes(t), composites(t)...) {
		n := withRoom(fromBig(z))
		l, e := proof.Make(n)
		again, no := proof.Make(fromBig(z))
		if e != no || !slices.EqualFunc(l, again, sameStep) || proof.Denies(n, 2) != proof.Denies(fromBig(z), 2) {
			t.Errorf("other results for %v", z)
		}
		if !same(n, fromBig(z)) || !slices.Equal(n.Mag[len(n.Mag):len(n.Mag)+3], []uint32{5, 5, 5}) {
			t.Errorf("%v has become %v", z, toBig(n))
		}
	}
}

// The steps of Make are new memory: they share none with the argument, nor with one another.
func TestStepsAreNew(t *testing.T) {
	for _, z := range append(primes(t), near(40, -87), near(107, -1), near(521, -1), big.NewInt(1122659<<6+63)) {
		n := fromBig(z)
		l, _ := proof.Make(n)
		want := copied(l)
		for i := range l {
			for k, a := range numbers(&l[i]) {
				if !same(*a, *numbers(&want[i])[k]) {
					t.Fatalf("number %d of step %d of %s has memory of one before it", k, i, show(want))
				}
				for w := range a.Mag {
					a.Mag[w] += 77
				}
			}
			if !slices.Equal(l[i].Parts, want[i].Parts) {
				t.Fatalf("the parts of step %d of %s have memory of others", i, show(want))
			}
			for k := range l[i].Parts {
				l[i].Parts[k] += 77
			}
		}
		again, _ := proof.Make(n)
		if !same(n, fromBig(z)) || !slices.EqualFunc(again, want, sameStep) {
			t.Errorf("the steps of %v have memory of others", z)
		}
	}
}

// strangeNumbers has numbers that are rarely right, some of them not canonical.
func strangeNumbers() []api.Int {
	return []api.Int{
		{}, {Neg: true}, {Mag: []uint32{0}}, {Neg: true, Mag: []uint32{0, 0}}, num(1), num(-1), {Mag: []uint32{1, 0}}, num(2), num(3), num(4), num(5), num(-5), {Mag: []uint32{5, 0, 0}}, num(6), num(7), {Neg: true, Mag: []uint32{7, 0}}, num(11), num(22), num(23), num(35), num(65536), num(65537), num(1 << 32), num(1<<32 + 1), num(-1 << 32), fromBig(near(64, 0)), fromBig(near(64, 13)), fromBig(near(89, -1)),
	}
}

// P1: no function panics or hangs, whatever the steps and the numbers are. Steps with fields that fit and others that do not are mixed at random.
func TestStrangeArguments(t *testing.T) {
	r := rand.New(rand.NewSource(5))
	zs := strangeNumbers()
	number := func() api.Int { return zs[r.Intn(len(zs))] }
	indices := []int{0, 0, 0, 1, 1, 2, -1, 3, math.MaxInt, math.MinInt}
	for range 60000 {
		var l []api.Step
		for len(l) < 3 {
			good := examples()[r.Intn(4)][r.Intn(2)]
			s := good
			if r.Intn(2) == 0 {
				s.Kind = r.Intn(7) - 1
			}
			if r.Intn(2) == 0 {
				s.N = number()
			}
			if r.Intn(2) == 0 {
				s.Parts, s.Base = nil, nil
				for range r.Intn(4) {
					s.Parts, s.Base = append(s.Parts, indices[r.Intn(len(indices))]), append(s.Base, number())
				}
			}
			if r.Intn(2) == 0 {
				s.Curve, s.At, s.Order = api.Mod{A: number(), B: number(), M: number()}, api.Point{X: number(), Y: number(), Inf: r.Intn(3) == 0}, number()
			}
			l = append(l, s)
		}
		compare(t, l)
		proof.Proves(l, number())
	}
	for _, n := range zs {
		for _, b := range []int{math.MinInt, -1, 0, 1, 2, 3, math.MaxInt} {
			proof.Denies(n, b)
		}
		proof.Make(n)
		proof.Proves(steps(table(7)), n)
		proof.Proves(nil, n)
	}
}

// Long steps end, too: many parts, a long order, and numbers of which many powers are divided out.
func TestLongSteps(t *testing.T) {
	var m maker
	parts, bases := make([]int, 30000), make([]int64, 30000)
	many := minus(65537, parts, bases...)
	expect(t, "many parts", steps(table(2), many), 1)
	for range 2000 {
		m.step(table(2))
	}
	expect(t, "many steps", m.l, -1)
	expect(t, "many steps", append(m.l, minus(65537, []int{1999}, 3)), -1)
	order := fromBig(mul(big.NewInt(11), near(3000, 1)))
	s := byCurve(23, 0, 1, 5, 3, 9, 22)
	s.Order = order
	compare(t, steps(table(11), s))
	s.Order = fromBig(mul(big.NewInt(22), near(3000, 1)))
	compare(t, steps(table(11), s))
	compare(t, steps(table(2), api.Step{Kind: api.ByPlus, N: fromBig(near(3001, -1)), Parts: []int{0}, Base: []api.Int{num(1), num(3)}}))
	compare(t, steps(table(2), api.Step{Kind: api.ByMinus, N: fromBig(near(2048, 1)), Parts: []int{0}, Base: []api.Int{num(3)}}))
}
