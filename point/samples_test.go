package point_test

import (
	"fmt"
	"math/big"
	"math/rand"
	"slices"
	"testing"

	"algorist/api"
)

// toBig and fromBig read and write the words themselves, so that the tests do not rest on lower layers.
func toBig(a api.Int) *big.Int {
	z := new(big.Int)
	for i, w := range a.Mag {
		z.Or(z, new(big.Int).Lsh(big.NewInt(int64(w)), uint(32*i)))
	}
	if a.Neg {
		z.Neg(z)
	}
	return z
}

func fromBig(z *big.Int) api.Int {
	a := api.Int{Neg: z.Sign() < 0}
	for rest := new(big.Int).Abs(z); rest.Sign() > 0; rest.Rsh(rest, 32) {
		a.Mag = append(a.Mag, uint32(new(big.Int).And(rest, big.NewInt(1<<32-1)).Uint64()))
	}
	return a
}

// num returns a small number.
func num(n int64) api.Int { return fromBig(big.NewInt(n)) }

func same(a, b api.Int) bool { return a.Neg == b.Neg && slices.Equal(a.Mag, b.Mag) }

func isZero(a api.Int) bool { return same(a, api.Int{}) }

func samePoint(p, q api.Point) bool {
	return same(p.X, q.X) && same(p.Y, q.Y) && p.Inf == q.Inf
}

func show(c api.Mod, ps ...api.Point) string {
	s := fmt.Sprintf("{%v %v mod %v}", toBig(c.A), toBig(c.B), toBig(c.M))
	for _, p := range ps {
		s += fmt.Sprintf(" (%v, %v, %v)", toBig(p.X), toBig(p.Y), p.Inf)
	}
	return s
}

func curve(a, b, m int64) api.Mod { return api.Mod{A: num(a), B: num(b), M: num(m)} }

func at(x, y int64) api.Point { return api.Point{X: num(x), Y: num(y)} }

var infinity = api.Point{Inf: true}

var one = big.NewInt(1)

// near returns 2^n + d.
func near(n uint, d int64) *big.Int {
	return new(big.Int).Add(new(big.Int).Lsh(one, n), big.NewInt(d))
}

func mul(a, b *big.Int) *big.Int { return new(big.Int).Mul(a, b) }

func sub(a, b *big.Int) *big.Int { return new(big.Int).Sub(a, b) }

func mod(a, m *big.Int) *big.Int { return new(big.Int).Mod(a, m) }

// value returns x^3 + a x + b.
func value(a, b, x *big.Int) *big.Int {
	z := mul(new(big.Int).Add(mul(x, x), a), x)
	return z.Add(z, b)
}

// inRange reports whether a number is a residue.
func inRange(z, m *big.Int) bool { return z.Sign() >= 0 && z.Cmp(m) < 0 }

// on follows the definitions of a curve and of a point.
func on(c api.Mod, p api.Point) bool {
	a, b, m, x, y := toBig(c.A), toBig(c.B), toBig(c.M), toBig(p.X), toBig(p.Y)
	if m.Bit(0) == 0 || m.Cmp(big.NewInt(3)) <= 0 || !inRange(a, m) || !inRange(b, m) {
		return false
	}
	if p.Inf {
		return x.Sign() == 0 && y.Sign() == 0
	}
	return inRange(x, m) && inRange(y, m) && mod(sub(mul(y, y), value(a, b, x)), m).Sign() == 0
}

// negative follows the definition of Neg.
func negative(c api.Mod, p api.Point) api.Point {
	if p.Inf {
		return p
	}
	return api.Point{X: p.X, Y: fromBig(mod(new(big.Int).Neg(toBig(p.Y)), toBig(c.M)))}
}

// sum follows the definition of the sum: it returns the sum and nil, or the divisor.
func sum(c api.Mod, p, q api.Point) (api.Point, *big.Int) {
	if p.Inf {
		return q, nil
	}
	if q.Inf {
		return p, nil
	}
	m, x, y := toBig(c.M), toBig(p.X), toBig(p.Y)
	d, n := sub(toBig(q.X), x), sub(toBig(q.Y), y)
	if d.Sign() == 0 {
		d = new(big.Int).Add(y, toBig(q.Y))
		if mod(d, m).Sign() == 0 {
			return infinity, nil
		}
		n = mul(big.NewInt(3), mul(x, x))
		n.Add(n, toBig(c.A))
	}
	d.Mod(d, m)
	if g := new(big.Int).GCD(nil, nil, d, m); g.Cmp(one) != 0 {
		return api.Point{}, g
	}
	s := mul(n, new(big.Int).ModInverse(d, m))
	third := mod(sub(sub(mul(s, s), x), toBig(q.X)), m)
	return api.Point{X: fromBig(third), Y: fromBig(mod(sub(mul(s, sub(x, third)), y), m))}, nil
}

// multiple follows the definition of Times.
func multiple(c api.Mod, n *big.Int, p api.Point) (api.Point, *big.Int) {
	if n.Sign() < 0 {
		n, p = new(big.Int).Neg(n), negative(c, p)
	}
	r := infinity
	for _, bit := range n.Text(2) {
		var d *big.Int
		if r, d = sum(c, r, r); d != nil {
			return r, d
		}
		if bit == '0' {
			continue
		}
		if r, d = sum(c, r, p); d != nil {
			return r, d
		}
	}
	return r, nil
}

// points returns all points of a curve modulo a small number.
func points(c api.Mod) []api.Point {
	ps := []api.Point{infinity}
	m := toBig(c.M).Int64()
	for x := range m {
		for y := range m {
			if p := at(x, y); on(c, p) {
				ps = append(ps, p)
			}
		}
	}
	return ps
}

// curves returns all curves modulo a small number, or at most about so many of them.
func curves(m int64, most int) []api.Mod {
	var cs []api.Mod
	step := max(1, m*m/int64(most))
	for k := int64(0); k < m*m; k += step {
		cs = append(cs, curve(k/m, k%m, m))
	}
	return cs
}

// singular reports whether a curve modulo a prime has a singular point.
func singular(c api.Mod) bool {
	a, b := toBig(c.A), toBig(c.B)
	z := mul(big.NewInt(4), mul(a, mul(a, a)))
	z.Add(z, mul(big.NewInt(27), mul(b, b)))
	return mod(z, toBig(c.M)).Sign() == 0
}

// through returns a random curve, and a point of it.
func through(r *rand.Rand, m *big.Int) (api.Mod, api.Point) {
	a, x, y := new(big.Int).Rand(r, m), new(big.Int).Rand(r, m), new(big.Int).Rand(r, m)
	b := mod(sub(mul(y, y), value(a, new(big.Int), x)), m)
	return api.Mod{A: fromBig(a), B: fromBig(b), M: fromBig(m)}, api.Point{X: fromBig(x), Y: fromBig(y)}
}

// some returns p, -p, 2 p, -2 p and so on, as long as they exist and are not at infinity.
func some(c api.Mod, p api.Point, n int) []api.Point {
	var ps []api.Point
	for k := int64(1); k <= int64(n); k++ {
		q, d := multiple(c, big.NewInt(k), p)
		if d != nil || q.Inf {
			break
		}
		ps = append(ps, q, negative(c, q))
	}
	return ps
}

// glue returns the number that has a residue modulo each of two coprime numbers.
func glue(a, b, m, n api.Int) api.Int {
	x, y, p, q := toBig(a), toBig(b), toBig(m), toBig(n)
	steps := mul(sub(y, x), new(big.Int).ModInverse(mod(p, q), q))
	return fromBig(new(big.Int).Add(x, mul(p, steps.Mod(steps, q))))
}

// glued returns a random curve modulo the product of two primes, and points of it, some of which are the same modulo one of the primes.
func glued(r *rand.Rand, p, q *big.Int) (api.Mod, []api.Point) {
	c, u := through(r, p)
	d, v := through(r, q)
	e := api.Mod{A: glue(c.A, d.A, c.M, d.M), B: glue(c.B, d.B, c.M, d.M), M: fromBig(mul(p, q))}
	ps := []api.Point{infinity}
	for _, s := range some(c, u, 2) {
		for _, t := range some(d, v, 2) {
			ps = append(ps, api.Point{X: glue(s.X, t.X, c.M, d.M), Y: glue(s.Y, t.Y, c.M, d.M)})
		}
	}
	return e, ps
}

// longPrimes returns primes of one word and more.
func longPrimes(t *testing.T) []*big.Int {
	t.Helper()
	ps := []*big.Int{big.NewInt(65537), near(31, -1), near(32, 15), near(61, -1), near(64, 13), near(89, -1), near(127, -1), near(255, -19)}
	for _, p := range ps {
		if !p.ProbablyPrime(20) {
			t.Fatalf("%v is no prime", p)
		}
	}
	return ps
}

// composites are small odd moduli that are no primes: products, squares and cubes.
var composites = []int64{9, 15, 21, 25, 27, 33, 35, 45, 49, 55, 77, 105}
