package proof_test

import (
	"fmt"
	"math/big"
	"slices"
	"strings"
	"testing"

	"algorist/api"
)

// toBig and fromBig read and write the words themselves, so that the tests do not rest on lower layers.
func toBig(a api.Int) *big.Int {
	z := new(big.Int)
	for i, w := range a.Mag {
		z.Or(z, new(big.Int).Lsh(big.NewInt(int64(w)), uint(32*i)))
	}
	if a.Neg {
		z.Neg(z)
	}
	return z
}

func fromBig(z *big.Int) api.Int {
	a := api.Int{Neg: z.Sign() < 0}
	for rest := new(big.Int).Abs(z); rest.Sign() > 0; rest.Rsh(rest, 32) {
		a.Mag = append(a.Mag, uint32(new(big.Int).And(rest, big.NewInt(1<<32-1)).Uint64()))
	}
	return a
}

func num(n int64) api.Int { return fromBig(big.NewInt(n)) }

func same(a, b api.Int) bool { return a.Neg == b.Neg && slices.Equal(a.Mag, b.Mag) }

var one = big.NewInt(1)

// near returns 2^n + d.
func near(n uint, d int64) *big.Int {
	return new(big.Int).Add(new(big.Int).Lsh(one, n), big.NewInt(d))
}

func read(t *testing.T, s string) *big.Int {
	t.Helper()
	z, ok := new(big.Int).SetString(s, 0)
	if !ok {
		t.Fatal(s)
	}
	return z
}

func add(a, b *big.Int) *big.Int { return new(big.Int).Add(a, b) }

func sub(a, b *big.Int) *big.Int { return new(big.Int).Sub(a, b) }

func mul(factors ...*big.Int) *big.Int {
	z := big.NewInt(1)
	for _, f := range factors {
		z.Mul(z, f)
	}
	return z
}

func mod(a, m *big.Int) *big.Int { return new(big.Int).Mod(a, m) }

func quotient(a, b *big.Int) *big.Int { return new(big.Int).Quo(a, b) }

func divides(a, b *big.Int) bool { return mod(b, a).Sign() == 0 }

func coprime(a, b *big.Int) bool { return new(big.Int).GCD(nil, nil, mod(a, b), b).Cmp(one) == 0 }

func inRange(z *big.Int, from int64, m *big.Int) bool {
	return z.Cmp(big.NewInt(from)) >= 0 && z.Cmp(m) < 0
}

func show(l []api.Step) string {
	var out []string
	for _, s := range l {
		text := fmt.Sprintf("{kind %d: %v, parts %v, base", s.Kind, toBig(s.N), s.Parts)
		for _, b := range s.Base {
			text += fmt.Sprintf(" %v", toBig(b))
		}
		text += fmt.Sprintf(", curve %v %v mod %v", toBig(s.Curve.A), toBig(s.Curve.B), toBig(s.Curve.M))
		out = append(out, text+fmt.Sprintf(", at %v %v %v, order %v}", toBig(s.At.X), toBig(s.At.Y), s.At.Inf, toBig(s.Order)))
	}
	return strings.Join(out, " ")
}

// table, minus, plus and byCurve return steps.
func table(n int64) api.Step { return api.Step{Kind: api.ByTable, N: num(n)} }

func minus(n int64, parts []int, bases ...int64) api.Step {
	s := api.Step{Kind: api.ByMinus, N: num(n), Parts: parts}
	for _, b := range bases {
		s.Base = append(s.Base, num(b))
	}
	return s
}

func plus(n int64, parts []int, base ...int64) api.Step {
	s := minus(n, parts, base...)
	s.Kind = api.ByPlus
	return s
}

// byCurve takes the part, A, B, X, Y and the order.
func byCurve(n int64, part int, x ...int64) api.Step {
	return api.Step{
		Kind: api.ByCurve, N: num(n), Parts: []int{part}, Order: num(x[4]),
		Curve: api.Mod{A: num(x[0]), B: num(x[1]), M: num(n)}, At: api.Point{X: num(x[2]), Y: num(x[3])},
	}
}

// steps makes a list.
func steps(s ...api.Step) []api.Step { return s }

// copied returns the same steps in new memory.
func copied(l []api.Step) []api.Step {
	number := func(a api.Int) api.Int { return api.Int{Neg: a.Neg, Mag: slices.Clone(a.Mag)} }
	out := slices.Clone(l)
	for i, s := range out {
		s.N, s.Order, s.Parts, s.Base = number(s.N), number(s.Order), slices.Clone(s.Parts), slices.Clone(s.Base)
		for k, b := range s.Base {
			s.Base[k] = number(b)
		}
		s.Curve = api.Mod{A: number(s.Curve.A), B: number(s.Curve.B), M: number(s.Curve.M)}
		s.At.X, s.At.Y = number(s.At.X), number(s.At.Y)
		out[i] = s
	}
	return out
}

// isPrime is exact below 2^64.
func isPrime(n *big.Int) bool { return n.Sign() > 0 && n.ProbablyPrime(10) }

// primesBelow returns small primes.
func primesBelow(end int64) []int64 {
	var ps []int64
	for n := int64(2); n < end; n++ {
		if isPrime(big.NewInt(n)) {
			ps = append(ps, n)
		}
	}
	return ps
}

// factors returns the different primes that divide a positive number, in increasing order.
func factors(n *big.Int) []*big.Int {
	var ps []*big.Int
	rest := new(big.Int).Set(n)
	for d := int64(2); d < 1<<12; d++ {
		if p := big.NewInt(d); divides(p, rest) {
			ps = append(ps, p)
			for divides(p, rest) {
				rest = quotient(rest, p)
			}
		}
	}
	open := []*big.Int{rest}
	for len(open) > 0 {
		z := open[len(open)-1]
		open = open[:len(open)-1]
		switch {
		case z.Cmp(one) == 0:
		case isPrime(z):
			ps = append(ps, z)
		default:
			d := walked(z)
			open = append(open, d, quotient(z, d))
		}
	}
	slices.SortFunc(ps, (*big.Int).Cmp)
	return slices.CompactFunc(ps, func(a, b *big.Int) bool { return a.Cmp(b) == 0 })
}

// walked returns a divisor of a composite number, by the walks of Pollard.
func walked(n *big.Int) *big.Int {
	for c := int64(1); ; c++ {
		step := func(z *big.Int) *big.Int { return mod(add(mul(z, z), big.NewInt(c)), n) }
		x, y, d := big.NewInt(2), big.NewInt(2), big.NewInt(1)
		for d.Cmp(one) == 0 {
			x, y = step(x), step(step(y))
			d = new(big.Int).GCD(nil, nil, new(big.Int).Abs(sub(x, y)), n)
		}
		if d.Cmp(n) < 0 {
			return d
		}
	}
}

// maker builds proofs in the tests' own way: each number of 2^16 or more by all prime divisors of the number before it.
type maker struct{ l []api.Step }

// number adds what proves a prime, and returns the index of its step.
func (m *maker) number(n *big.Int) int {
	for i, s := range m.l {
		if same(s.N, fromBig(n)) {
			return i
		}
	}
	if n.BitLen() <= 16 {
		return m.step(api.Step{Kind: api.ByTable, N: fromBig(n)})
	}
	return m.step(m.minus(n, factors(sub(n, one))))
}

func (m *maker) step(s api.Step) int {
	m.l = append(m.l, s)
	return len(m.l) - 1
}

func (m *maker) numbers(ps []*big.Int) []int {
	var parts []int
	for _, p := range ps {
		parts = append(parts, m.number(p))
	}
	return parts
}

// minus returns a step for a prime by divisors of the number before it.
func (m *maker) minus(n *big.Int, ps []*big.Int) api.Step {
	s := api.Step{Kind: api.ByMinus, N: fromBig(n), Parts: m.numbers(ps)}
	for _, q := range ps {
		b := big.NewInt(2)
		for new(big.Int).Exp(b, quotient(sub(n, one), q), n).Cmp(one) == 0 {
			b.Add(b, one)
		}
		s.Base = append(s.Base, fromBig(b))
	}
	return s
}

// plus returns a step for a prime by divisors of the number after it.
func (m *maker) plus(n *big.Int, ps []*big.Int) api.Step {
	s := api.Step{Kind: api.ByPlus, N: fromBig(n), Parts: m.numbers(ps)}
	p, q := big.NewInt(1), big.NewInt(1)
	for !isBase(n, ps, p, q) {
		q.Add(q, one)
	}
	s.Base = []api.Int{fromBig(p), fromBig(q)}
	return s
}

// onCurve adds what proves q, and the step for a prime by a point of a curve.
func (m *maker) onCurve(n, q *big.Int, c api.Mod, p api.Point, order *big.Int) {
	part := m.number(q)
	m.step(api.Step{Kind: api.ByCurve, N: fromBig(n), Parts: []int{part}, Curve: c, At: p, Order: fromBig(order)})
}

// knownCurve has a point of a curve modulo a prime n, whose order divides order, a multiple of q.
type knownCurve struct{ n, a, b, x, y, order, q string }

var knownCurves = []knownCurve{
	{"5", "2", "1", "0", "1", "7", "7"},
	{"7", "3", "5", "1", "3", "7", "7"},
	{"13", "7", "6", "1", "1", "11", "11"},
	{"23", "1", "5", "3", "9", "22", "11"},
	{"23", "5", "3", "0", "7", "23", "23"},
	{"23", "1", "18", "0", "8", "13", "13"},
	{"11119", "3844", "8174", "1070", "661", "11176", "127"},
	{"48533", "4439", "40618", "32289", "16228", "48694", "251"},
	{"216107", "163072", "183915", "155345", "27011", "216325", "509"},
	{"1000000009", "33", "0", "288021301", "1768276", "999937210", "37021"},
	{"1099511627791", "0", "2", "63870600266", "123419510055", "1099509664383", "11418613"},
	{"2305843009213693973", "8", "0", "838605088641841359", "461680370128964335", "2305843010841386650", "1406988443629"},
	{"604462909807314587353183", "0", "1", "538753644158154688427699", "280524979109808911612135", "604462909808862479148132", "5113598820002209"},
	{"1237940039285380274899124357", "1", "0", "895987272234254330487548772", "259179387030866742200377180", "1237940039285319222004822756", "5460504434273687836357"},
	{"170141183460469231731687303715884105793", "0", "43", "39393934017830331049323199587429032846", "14279605605008446435048418127603499868", "170141183460469231719751853512260068289", "3527960206040011479160159166263"},
	{"1569275433846670190958947355801916604025588861116008633541", "8", "0", "1033884649318410575549678933245312246602675623786907216626", "325532188396025091700378236164359274807896496981963309644", "1569275433846670190958947355723504168860490524134006995050", "31385508676933403819178947114470083377209810482680139901"},
}

// proof returns the steps that a known curve leads to.
func (k knownCurve) proof(t *testing.T) []api.Step {
	t.Helper()
	number := func(s string) api.Int { return fromBig(read(t, s)) }
	c := api.Mod{A: number(k.a), B: number(k.b), M: number(k.n)}
	var m maker
	m.onCurve(read(t, k.n), read(t, k.q), c, api.Point{X: number(k.x), Y: number(k.y)}, read(t, k.order))
	return m.l
}

// primes returns primes of many lengths.
func primes(t *testing.T) []*big.Int {
	t.Helper()
	var ps []*big.Int
	for _, p := range append(primesBelow(60), 251, 257, 7919, 65519, 65521, 65537, 65539, 1000003, 2147483647, 4294967291, 4294967311, 1099511627689) {
		ps = append(ps, big.NewInt(p))
	}
	ps = append(ps, near(61, -1), near(64, 13), near(89, -1))
	for _, p := range ps {
		if !isPrime(p) {
			t.Fatalf("%v is no prime", p)
		}
	}
	return ps
}

// composites has numbers that look like primes: Carmichael's, strong probable primes to several bases, squares, numbers of Mersenne and Fermat, and products of two long primes.
func composites(t *testing.T) []*big.Int {
	t.Helper()
	var zs []*big.Int
	for _, n := range []int64{9, 15, 21, 25, 35, 49, 91, 121, 217, 341, 455, 561, 645, 1045, 1105, 1729, 2047, 2465, 2821, 3277, 4371, 6601, 8911, 65535, 65521 * 65521, 75361, 1373653, 25326001, 3215031751, 2152302898747, 3474749660383, 341550071728321} {
		zs = append(zs, big.NewInt(n))
	}
	for _, s := range []string{"3825123056546413051", "318665857834031151167461", "3317044064679887385961981"} {
		zs = append(zs, read(t, s))
	}
	zs = append(zs, near(32, 1), near(64, 1), near(128, 1), near(67, -1), near(257, -1), near(1023, -1), mul(near(61, -1), near(61, -1)), mul(near(61, -1), near(89, -1)), mul(near(64, 13), near(521, -1)))
	for _, z := range zs {
		if isPrime(z) {
			t.Fatalf("%v is a prime", z)
		}
	}
	return zs
}
