package point_test

import (
	"math/big"
	"math/rand"
	"testing"

	"algorist/api"
	"algorist/point"
)

// add returns a sum, and whether there is one.
func add(t *testing.T, c api.Mod, p, q api.Point) (api.Point, bool) {
	t.Helper()
	s, d, e := point.Add(c, p, q)
	if e == api.ErrNone && samePoint(s, api.Point{}) {
		return s, false
	}
	if e != api.OK || !isZero(d) {
		t.Fatalf("Add(%s) = %s, %v, %d", show(c, p, q), show(c, s), toBig(d), e)
	}
	return s, true
}

// times returns a multiple, and whether it was found.
func times(t *testing.T, c api.Mod, n *big.Int, p api.Point) (api.Point, bool) {
	t.Helper()
	s, d, e := point.Times(c, fromBig(n), p)
	if e == api.ErrNone && samePoint(s, api.Point{}) {
		return s, false
	}
	if e != api.OK || !isZero(d) {
		t.Fatalf("Times(%v, %s) = %s, %v, %d", n, show(c, p), show(c, s), toBig(d), e)
	}
	return s, true
}

// groups calls a function with curves modulo primes without singular points, and points of them: all points, or some of a long curve.
func groups(t *testing.T, visit func(c api.Mod, ps []api.Point)) {
	t.Helper()
	for _, p := range []int64{5, 7, 11, 13, 17, 23} {
		for _, c := range curves(p, 130/int(p)) {
			if !singular(c) {
				visit(c, points(c))
			}
		}
	}
	r := rand.New(rand.NewSource(11))
	for _, p := range longPrimes(t) {
		c, u := through(r, p)
		if !singular(c) {
			visit(c, append(some(c, u, 3), infinity))
		}
	}
}

// P6.2: there is always a sum, addition is commutative and associative, infinity is neutral, and p + Neg(p) is infinity.
func TestGroup(t *testing.T) {
	groups(t, func(c api.Mod, ps []api.Point) {
		sum := func(p, q api.Point) api.Point {
			s, ok := add(t, c, p, q)
			if !ok {
				t.Errorf("there is no sum: %s", show(c, p, q))
			}
			return s
		}
		for _, p := range ps {
			if !samePoint(sum(p, infinity), p) || !samePoint(sum(infinity, p), p) {
				t.Errorf("infinity is not neutral: %s", show(c, p))
			}
			q, e := point.Neg(c, p)
			if e != api.OK || !samePoint(sum(p, q), infinity) || !samePoint(sum(q, p), infinity) {
				t.Errorf("Neg(%s) = %s, %d", show(c, p), show(c, q), e)
			}
			for j, q := range ps {
				s := sum(p, q)
				if !samePoint(s, sum(q, p)) {
					t.Errorf("not commutative: %s", show(c, p, q))
				}
				if samePoint(s, p) && !q.Inf {
					t.Errorf("neutral, too: %s", show(c, p, q))
				}
				for k := j % 3; k < len(ps); k += 1 + len(ps)/9 {
					if !samePoint(sum(s, ps[k]), sum(p, sum(q, ps[k]))) {
						t.Errorf("not associative: %s", show(c, p, q, ps[k]))
					}
				}
			}
		}
	})
}

// P6.3: (m + n) p = m p + n p, and m (n p) = (m n) p.
func TestMultiples(t *testing.T) {
	numbers := []*big.Int{new(big.Int), one, big.NewInt(-1), big.NewInt(2), big.NewInt(-3), big.NewInt(7), big.NewInt(12), near(32, 0), near(33, 5), mul(near(64, -1), big.NewInt(-1)), near(100, 77)}
	groups(t, func(c api.Mod, ps []api.Point) {
		multiple := func(n *big.Int, p api.Point) api.Point {
			s, ok := times(t, c, n, p)
			if !ok {
				t.Errorf("there is no multiple %v of %s", n, show(c, p))
			}
			return s
		}
		p := ps[len(ps)/2]
		if !samePoint(multiple(new(big.Int), p), infinity) || !samePoint(multiple(one, p), p) {
			t.Errorf("multiples 0 and 1 of %s", show(c, p))
		}
		for _, m := range numbers {
			x := multiple(m, p)
			for _, n := range numbers {
				y := multiple(n, p)
				if s, _ := add(t, c, x, y); !samePoint(multiple(new(big.Int).Add(m, n), p), s) {
					t.Errorf("%v + %v times %s", m, n, show(c, p))
				}
				if !samePoint(multiple(m, y), multiple(mul(m, n), p)) {
					t.Errorf("%v times %v times %s", m, n, show(c, p))
				}
			}
		}
	})
}

// P6.3: as many times a point as the curve has points is infinity.
func TestOrders(t *testing.T) {
	for _, m := range []int64{5, 7, 11, 13, 19, 29} {
		for _, c := range curves(m, 12) {
			if singular(c) {
				continue
			}
			ps := points(c)
			for _, p := range ps {
				if s, ok := times(t, c, big.NewInt(int64(len(ps))), p); !ok || !s.Inf {
					t.Errorf("%d times %s is %s", len(ps), show(c, p), show(c, s))
				}
			}
		}
	}
}

// P6.4: a divisor that is returned divides M, and is greater than 1 and less than M.
func checkDivisor(t *testing.T, c api.Mod, d api.Int, what ...any) {
	t.Helper()
	z, m := toBig(d), toBig(c.M)
	if !same(d, fromBig(z)) || z.Cmp(one) <= 0 || z.Cmp(m) >= 0 || mod(m, z).Sign() != 0 {
		t.Errorf("%v: %v is no divisor", what, z)
	}
}

// pairs calls a function with curves modulo numbers that are no primes, and pairs of points of them.
func pairs(t *testing.T, visit func(c api.Mod, p, q api.Point)) {
	t.Helper()
	for _, m := range composites {
		for _, c := range curves(m, 9) {
			ps := points(c)
			for _, p := range ps {
				for j := 0; j < len(ps); j += 1 + len(ps)/15 {
					visit(c, p, ps[j])
				}
			}
		}
	}
	r := rand.New(rand.NewSource(12))
	moduli := longPrimes(t)
	for i, p := range moduli {
		for _, q := range []*big.Int{big.NewInt(3), big.NewInt(5), big.NewInt(7), moduli[(i+1)%len(moduli)]} {
			c, ps := glued(r, p, q)
			for _, u := range ps {
				for _, v := range ps {
					visit(c, u, v)
				}
			}
		}
	}
}

func TestDivisors(t *testing.T) {
	found, missing := 0, 0
	pairs(t, func(c api.Mod, p, q api.Point) {
		if _, d, e := point.Add(c, p, q); e == api.ErrNone {
			checkDivisor(t, c, d, "Add", show(c, p, q))
			found++
		} else {
			missing++
		}
		for n := int64(-13); n <= 13; n += 13 {
			if _, d, e := point.Times(c, num(n), p); e == api.ErrNone {
				checkDivisor(t, c, d, "Times", n, show(c, p))
				found++
			}
		}
	})
	if found < 1000 || missing < 1000 {
		t.Errorf("there was a divisor in %d cases, and none in %d", found, missing)
	}
}

// reduced returns a curve or a point modulo a divisor of the modulus.
func reduced(c api.Mod, q *big.Int) api.Mod {
	return api.Mod{A: fromBig(mod(toBig(c.A), q)), B: fromBig(mod(toBig(c.B), q)), M: fromBig(q)}
}

func reducedPoint(p api.Point, q *big.Int) api.Point {
	return api.Point{X: fromBig(mod(toBig(p.X), q)), Y: fromBig(mod(toBig(p.Y), q)), Inf: p.Inf}
}

// P6.5: if a sum exists modulo M, its residues modulo a prime divisor q of M are the sum of the residues modulo q.
func TestProjections(t *testing.T) {
	checked := 0
	primes := append(longPrimes(t), big.NewInt(5), big.NewInt(7), big.NewInt(11)) // all that the moduli have, but for 3
	pairs(t, func(c api.Mod, p, q api.Point) {
		s, ok := add(t, c, p, q)
		n, is := times(t, c, big.NewInt(-3), p)
		for _, z := range primes {
			if mod(toBig(c.M), z).Sign() != 0 {
				continue
			}
			small := reduced(c, z)
			u, v := reducedPoint(p, z), reducedPoint(q, z)
			if below, there := add(t, small, u, v); ok && (!there || !samePoint(below, reducedPoint(s, z))) {
				t.Errorf("Add(%s) = %s, but %s modulo %v", show(c, p, q), show(c, s), show(small, below), z)
			}
			if below, there := times(t, small, big.NewInt(-3), u); is && (!there || !samePoint(below, reducedPoint(n, z))) {
				t.Errorf("Times(-3, %s) = %s, but %s modulo %v", show(c, p), show(c, n), show(small, below), z)
			}
			if ok && is {
				checked++
			}
		}
	})
	if checked < 1000 {
		t.Errorf("only %d were checked", checked)
	}
}

// P6.6: sums, negatives and multiples are points of the curve.
func TestClosed(t *testing.T) {
	checkPoint := func(c api.Mod, p api.Point, what ...any) {
		t.Helper()
		if !on(c, p) || !point.On(c, p) || !samePoint(p, reducedPoint(p, toBig(c.M))) {
			t.Errorf("%v = %s is no point", what, show(c, p))
		}
	}
	closed := func(c api.Mod, p, q api.Point) {
		t.Helper()
		if s, ok := add(t, c, p, q); ok {
			checkPoint(c, s, "Add", show(c, p, q))
		}
		s, e := point.Neg(c, p)
		if e != api.OK {
			t.Errorf("Neg(%s): error %d", show(c, p), e)
		}
		checkPoint(c, s, "Neg", show(c, p))
		for n := int64(-9); n <= 9; n += 6 {
			if s, ok := times(t, c, big.NewInt(n), p); ok {
				checkPoint(c, s, "Times", n, show(c, p))
			}
		}
	}
	pairs(t, closed)
	groups(t, func(c api.Mod, ps []api.Point) {
		for i, p := range ps {
			closed(c, p, ps[(3*i)%len(ps)])
		}
	})
	for m := int64(5); m <= 25; m += 2 { // with singular points
		for _, c := range []api.Mod{curve(0, 0, m), curve(m-3, 2, m), curve(m-3, m-2, m)} {
			for _, p := range points(c) {
				for _, q := range points(c) {
					closed(c, p, q)
				}
			}
		}
	}
}
