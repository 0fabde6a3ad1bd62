package point_test

// P6.1: each function does what F1 to F4 say, compared with the definitions, with crypto/elliptic, and with the examples of the chapter.

import (
	"crypto/elliptic"
	"math/big"
	"math/rand"
	"testing"

	"algorist/api"
	"algorist/point"
)

func checkOn(t *testing.T, c api.Mod, p api.Point) {
	t.Helper()
	if got, want := point.On(c, p), on(c, p); got != want {
		t.Errorf("On(%s) is %v", show(c, p), got)
	}
}

func TestOn(t *testing.T) {
	for m := int64(-6); m <= 10; m++ {
		for a := int64(-1); a <= max(m, 3); a++ {
			for b := int64(-1); b <= max(m, 3); b++ {
				for x := int64(-1); x <= max(m, 3); x++ {
					for y := int64(-1); y <= max(m, 3); y++ {
						checkOn(t, curve(a, b, m), at(x, y))
					}
				}
				for _, p := range []api.Point{infinity, {X: num(1), Inf: true}, {Y: num(1), Inf: true}, {X: num(2), Y: num(3), Inf: true}, {X: num(-1), Inf: true}} {
					checkOn(t, curve(a, b, m), p)
				}
			}
		}
	}
	for _, c := range []api.Mod{curve(1, 1, 5), curve(0, 0, 5), curve(4, 4, 5), curve(0, 0, 9)} {
		if !point.On(c, infinity) {
			t.Errorf("infinity is a point of %s", show(c))
		}
	}
	for _, c := range []api.Mod{curve(1, 1, 3), curve(0, 0, 1), curve(1, 1, 6), curve(1, 1, 4), curve(1, 1, 0), curve(1, 1, -5), curve(5, 1, 5), curve(1, 5, 5), curve(-1, 1, 5), curve(1, -1, 5)} {
		if point.On(c, infinity) {
			t.Errorf("%s is no curve", show(c))
		}
	}
	if point.On(curve(1, 1, 5), at(0, 2)) || point.On(curve(1, 1, 5), at(5, 1)) || point.On(curve(1, 1, 5), at(0, 6)) || point.On(curve(1, 1, 5), at(0, -1)) {
		t.Error("there are other points modulo 5")
	}
}

// Long numbers: ranges, parities, and points that are none by one unit.
func TestOnLong(t *testing.T) {
	r := rand.New(rand.NewSource(1))
	for _, m := range []*big.Int{near(32, 1), near(32, -1), near(64, 1), near(64, -1), near(89, -1), near(100, 3), near(1000, 1), mul(near(61, -1), near(61, -1))} {
		for range 20 {
			c, p := through(r, m)
			if !point.On(c, p) {
				t.Errorf("On(%s) is false", show(c, p))
			}
			for _, d := range []*big.Int{one, big.NewInt(-1), near(32, 0), m, new(big.Int).Neg(m)} {
				moved := func(a api.Int) api.Int { return fromBig(new(big.Int).Add(toBig(a), d)) }
				checkOn(t, c, api.Point{X: moved(p.X), Y: p.Y})
				checkOn(t, c, api.Point{X: p.X, Y: moved(p.Y)})
				checkOn(t, api.Mod{A: moved(c.A), B: c.B, M: c.M}, p)
				checkOn(t, api.Mod{A: c.A, B: moved(c.B), M: c.M}, p)
				checkOn(t, api.Mod{A: c.A, B: c.B, M: moved(c.M)}, p)
				checkOn(t, api.Mod{A: moved(c.A), B: c.B, M: c.M}, infinity)
				checkOn(t, api.Mod{A: c.A, B: moved(c.B), M: c.M}, infinity)
			}
			even := c
			even.M = fromBig(new(big.Int).Add(m, one))
			checkOn(t, even, infinity)
			checkOn(t, c, api.Point{X: p.X, Y: p.Y, Inf: true})
		}
	}
}

func TestNeg(t *testing.T) {
	for m := int64(5); m <= 35; m += 2 {
		for _, c := range curves(m, 40) {
			for _, p := range points(c) {
				if q, e := point.Neg(c, p); e != api.OK || !samePoint(q, negative(c, p)) {
					t.Errorf("Neg(%s) = %s, %d", show(c, p), show(c, q), e)
				}
			}
		}
	}
	r := rand.New(rand.NewSource(2))
	for _, m := range longPrimes(t) {
		c, p := through(r, m)
		if q, e := point.Neg(c, p); e != api.OK || !samePoint(q, negative(c, p)) {
			t.Errorf("Neg(%s) = %s, %d", show(c, p), show(c, q), e)
		}
	}
	for _, x := range [][2]api.Point{{at(0, 1), at(0, 4)}, {at(4, 2), at(4, 3)}, {infinity, infinity}} {
		if q, e := point.Neg(curve(1, 1, 5), x[0]); e != api.OK || !samePoint(q, x[1]) {
			t.Errorf("Neg(%s) = %s, %d", show(curve(1, 1, 5), x[0]), show(curve(1, 1, 5), q), e)
		}
	}
	if q, e := point.Neg(curve(0, 0, 9), at(3, 0)); e != api.OK || !samePoint(q, at(3, 0)) {
		t.Errorf("Neg of (3, 0) modulo 9 = %s, %d", show(curve(0, 0, 9), q), e)
	}
}

// check compares a sum or a multiple with the right one, or with the right divisor.
func check(t *testing.T, got api.Point, d api.Int, e api.Errno, want api.Point, divisor *big.Int, what ...any) {
	t.Helper()
	no, number := api.OK, api.Int{}
	if divisor != nil {
		want, no, number = api.Point{}, api.ErrNone, fromBig(divisor)
	}
	if e != no || !samePoint(got, want) || !same(d, number) {
		t.Errorf("%v is (%v, %v, %v), %v, %d; want (%v, %v, %v), %v, %d", what, toBig(got.X), toBig(got.Y), got.Inf, toBig(d), e, toBig(want.X), toBig(want.Y), want.Inf, toBig(number), no)
	}
}

func checkAdd(t *testing.T, c api.Mod, p, q api.Point) {
	t.Helper()
	want, divisor := sum(c, p, q)
	got, d, e := point.Add(c, p, q)
	check(t, got, d, e, want, divisor, "Add", show(c, p, q))
}

func TestAdd(t *testing.T) {
	for m := int64(5); m <= 35; m += 2 {
		most := 30
		if m <= 9 {
			most = 81
		}
		for _, c := range curves(m, most) {
			ps := points(c)
			for _, p := range ps {
				for _, q := range ps {
					checkAdd(t, c, p, q)
				}
			}
		}
	}
	for _, m := range composites {
		for _, c := range curves(m, 8) {
			ps := points(c)
			for i, p := range ps {
				for j := 0; j < len(ps); j += 1 + len(ps)/30 {
					checkAdd(t, c, p, ps[(i+j)%len(ps)])
				}
			}
		}
	}
}

func TestAddLong(t *testing.T) {
	r := rand.New(rand.NewSource(3))
	moduli := longPrimes(t)
	for i, m := range moduli {
		c, p := through(r, m)
		all := append(some(c, p, 4), infinity)
		for _, u := range all {
			for _, v := range all {
				checkAdd(t, c, u, v)
			}
		}
		d, ps := glued(r, m, moduli[(i+3)%len(moduli)])
		for _, u := range ps {
			for _, v := range ps {
				checkAdd(t, d, u, v)
			}
		}
	}
}

func checkTimes(t *testing.T, c api.Mod, n *big.Int, p api.Point) {
	t.Helper()
	want, divisor := multiple(c, n, p)
	got, d, e := point.Times(c, fromBig(n), p)
	check(t, got, d, e, want, divisor, "Times", n, show(c, p))
}

func TestTimes(t *testing.T) {
	for m := int64(5); m <= 21; m += 2 {
		for _, c := range curves(m, 16) {
			for _, p := range points(c) {
				for n := int64(-20); n <= 20; n++ {
					checkTimes(t, c, big.NewInt(n), p)
				}
			}
		}
	}
	r := rand.New(rand.NewSource(4))
	for _, m := range append(composites, 1009*1013, 143, 1001, 3*5*7*11*13) {
		for range 25 {
			c, p := through(r, big.NewInt(m))
			for n := int64(-3); n <= 3; n++ {
				checkTimes(t, c, big.NewInt(n), p)
			}
			for k := range 10 {
				checkTimes(t, c, big.NewInt(r.Int63n(64<<(5*k))), p)
				checkTimes(t, c, big.NewInt(-r.Int63n(64<<(5*k))), p)
			}
		}
	}
}

func TestTimesLong(t *testing.T) {
	r := rand.New(rand.NewSource(5))
	moduli := longPrimes(t)
	for i, m := range moduli {
		for _, bits := range []uint{1, 31, 32, 33, 64, 65, 200} {
			c, p := through(r, m)
			n := new(big.Int).Rand(r, near(bits, 0))
			for _, k := range []*big.Int{n, new(big.Int).Neg(n), near(bits, 0), near(bits, -1), near(bits, 1), new(big.Int).Neg(near(bits, 0))} {
				checkTimes(t, c, k, p)
				checkTimes(t, c, k, infinity)
			}
			d, ps := glued(r, m, moduli[(i+1)%len(moduli)])
			checkTimes(t, d, n, ps[r.Intn(len(ps))])
		}
	}
	for _, m := range []*big.Int{big.NewInt(5), big.NewInt(1009), big.NewInt(1001), near(64, 13)} {
		c, p := through(r, m)
		n := new(big.Int).Rand(r, near(4096, 0))
		checkTimes(t, c, n, p)
		checkTimes(t, c, near(9000, -1), p)
	}
}

// A long product of factorials is a multiple of the orders modulo some small primes of the modulus: the divisor is that of the first sum that fails.
func TestTimesFinds(t *testing.T) {
	r := rand.New(rand.NewSource(6))
	n := new(big.Int).MulRange(1, 60)
	found := 0
	for _, p := range []int64{5, 7, 11, 13, 101, 103, 211} {
		for _, q := range longPrimes(t) {
			c, u := through(r, mul(big.NewInt(p), q))
			checkTimes(t, c, n, u)
			checkTimes(t, c, new(big.Int).Neg(n), u)
			if _, d, e := point.Times(c, fromBig(n), u); e == api.ErrNone && toBig(d).Int64() == p {
				found++
			}
		}
	}
	if found < 20 {
		t.Errorf("only %d divisors were found", found)
	}
}

// Curves of which crypto/elliptic knows the order of a point; their A is -3.
func TestKnownCurves(t *testing.T) {
	r := rand.New(rand.NewSource(7))
	for _, known := range []elliptic.Curve{elliptic.P224(), elliptic.P256(), elliptic.P521()} {
		k := known.Params()
		c := api.Mod{A: fromBig(sub(k.P, big.NewInt(3))), B: fromBig(k.B), M: fromBig(k.P)}
		g := api.Point{X: fromBig(k.Gx), Y: fromBig(k.Gy)}
		for range 3 {
			n := new(big.Int).Rand(r, k.N)
			x, y := known.ScalarBaseMult(n.Bytes())
			want := api.Point{X: fromBig(x), Y: fromBig(y)}
			for _, z := range []*big.Int{n, new(big.Int).Add(n, k.N), sub(n, k.N)} {
				got, d, e := point.Times(c, fromBig(z), g)
				check(t, got, d, e, want, nil, "Times", k.Name, z)
			}
		}
		got, d, e := point.Times(c, fromBig(k.N), g)
		check(t, got, d, e, infinity, nil, "Times", k.Name, "order")
		got, d, e = point.Times(c, fromBig(sub(k.N, one)), g)
		check(t, got, d, e, negative(c, g), nil, "Times", k.Name, "order - 1")
	}
}

func TestExamples(t *testing.T) {
	c, p := curve(1, 1, 5), at(0, 1)
	got, d, e := point.Add(c, p, p)
	check(t, got, d, e, at(4, 2), nil, "(0, 1) + (0, 1)")
	for _, x := range []struct {
		n    int64
		want api.Point
	}{{3, at(2, 1)}, {9, infinity}, {0, infinity}, {1, p}, {2, at(4, 2)}, {-1, at(0, 4)}, {-2, at(4, 3)}, {10, p}, {-9, infinity}, {-8, p}} {
		got, d, e = point.Times(c, num(x.n), p)
		check(t, got, d, e, x.want, nil, x.n, "times (0, 1)")
	}
	got, d, e = point.Add(curve(1, 1, 35), p, at(7, 6))
	check(t, got, d, e, api.Point{}, big.NewInt(7), "(0, 1) + (7, 6)")
}

// Curves that are none, and points that are none, are refused by all functions; also where no sum would have to be computed.
func TestErrArg(t *testing.T) {
	good, p := curve(1, 1, 5), at(0, 1)
	for _, x := range []struct {
		c api.Mod
		p api.Point
	}{
		{curve(1, 1, 3), at(0, 1)}, {curve(0, 0, 1), at(0, 0)}, {curve(0, 0, 0), at(0, 0)}, {curve(0, 0, -5), at(0, 0)}, {curve(1, 1, 4), at(0, 1)}, {curve(1, 1, 6), at(0, 1)}, {api.Mod{}, infinity}, {api.Mod{}, api.Point{}},
		{curve(5, 1, 5), p}, {curve(6, 1, 5), p}, {curve(1, 6, 5), p}, {curve(-4, 1, 5), p}, {curve(1, -4, 5), p}, {curve(1, 1, 3), infinity}, {curve(1, 1, 6), infinity}, {curve(6, 1, 5), infinity}, {curve(1, -4, 5), infinity},
		{good, at(0, 0)}, {good, at(0, 2)}, {good, at(0, 6)}, {good, at(0, -1)}, {good, at(5, 1)}, {good, at(-5, 1)}, {good, at(1, 1)}, {good, api.Point{}},
		{good, api.Point{X: num(1), Inf: true}}, {good, api.Point{Y: num(1), Inf: true}}, {good, api.Point{X: num(0), Y: num(4), Inf: true}}, {good, api.Point{X: num(-1), Inf: true}},
	} {
		if point.On(x.c, x.p) {
			t.Errorf("On(%s)", show(x.c, x.p))
		}
		if q, e := point.Neg(x.c, x.p); e != api.ErrArg || !samePoint(q, api.Point{}) {
			t.Errorf("Neg(%s) = %s, %d", show(x.c, x.p), show(x.c, q), e)
		}
		for _, q := range []api.Point{x.p, infinity, p, at(0, 4)} {
			for _, two := range [][2]api.Point{{x.p, q}, {q, x.p}} {
				if s, d, e := point.Add(x.c, two[0], two[1]); e != api.ErrArg || !samePoint(s, api.Point{}) || !isZero(d) {
					t.Errorf("Add(%s) = %s, %v, %d", show(x.c, two[0], two[1]), show(x.c, s), toBig(d), e)
				}
			}
		}
		for n := int64(-3); n <= 3; n++ {
			if s, d, e := point.Times(x.c, num(n), x.p); e != api.ErrArg || !samePoint(s, api.Point{}) || !isZero(d) {
				t.Errorf("Times(%d, %s) = %s, %v, %d", n, show(x.c, x.p), show(x.c, s), toBig(d), e)
			}
		}
	}
}
