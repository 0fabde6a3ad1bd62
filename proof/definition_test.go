package proof_test

// The definition of a right step, in math/big, with which Check is compared.

import (
	"math/big"
	"slices"

	"algorist/api"
)

// firstWrong returns what Check has to return.
func firstWrong(l []api.Step) (int, api.Errno) {
	for i := range l {
		if !right(l, i) {
			return i, api.ErrProof
		}
	}
	if len(l) == 0 {
		return 0, api.ErrProof
	}
	return 0, api.OK
}

// right reports whether a step is right, after earlier ones that are right.
func right(l []api.Step, i int) bool {
	s := l[i]
	curve := []api.Int{s.Curve.A, s.Curve.B, s.Curve.M, s.At.X, s.At.Y, s.Order}
	for _, a := range slices.Concat([]api.Int{s.N}, s.Base, curve) {
		if !same(a, fromBig(toBig(a))) {
			return false
		}
	}
	var parts []*big.Int
	for _, k := range s.Parts {
		if k < 0 || k >= i || slices.ContainsFunc(parts, func(p *big.Int) bool { return p.Cmp(toBig(l[k].N)) == 0 }) {
			return false
		}
		parts = append(parts, toBig(l[k].N))
	}
	n := toBig(s.N)
	hasCurve := s.At.Inf || slices.ContainsFunc(curve, func(a api.Int) bool { return toBig(a).Sign() != 0 })
	switch {
	case n.Cmp(big.NewInt(2)) < 0:
		return false
	case s.Kind == api.ByTable:
		return len(s.Base) == 0 && !hasCurve && len(parts) == 0 && n.Cmp(big.NewInt(65536)) < 0 && n.ProbablyPrime(0)
	case s.Kind == api.ByMinus:
		return !hasCurve && rightMinus(n, parts, s.Base)
	case s.Kind == api.ByPlus:
		return !hasCurve && rightPlus(n, parts, s.Base)
	}
	return s.Kind == api.ByCurve && len(s.Base) == 0 && rightCurve(n, parts, s)
}

// powers returns the product of the greatest powers of some primes that divide m, and whether all of them do.
func powers(m *big.Int, parts []*big.Int) (*big.Int, bool) {
	f := big.NewInt(1)
	for _, q := range parts {
		if !divides(q, m) {
			return nil, false
		}
		for z := q; divides(z, m); z = mul(z, q) {
			f.Mul(f, q)
		}
	}
	return f, true
}

func rightMinus(n *big.Int, parts []*big.Int, base []api.Int) bool {
	before := sub(n, one)
	f, ok := powers(before, parts)
	if n.Bit(0) == 0 || !ok || mul(f, f).Cmp(n) <= 0 || len(base) != len(parts) {
		return false
	}
	for i, q := range parts {
		b := toBig(base[i])
		if !inRange(b, 2, n) || new(big.Int).Exp(b, before, n).Cmp(one) != 0 {
			return false
		}
		if power := new(big.Int).Exp(b, quotient(before, q), n); !coprime(sub(power, one), n) {
			return false
		}
	}
	return true
}

func rightPlus(n *big.Int, parts []*big.Int, base []api.Int) bool {
	f, ok := powers(add(n, one), parts)
	if n.Bit(0) == 0 || !ok || mul(sub(f, one), sub(f, one)).Cmp(n) <= 0 || len(base) != 2 {
		return false
	}
	p, q := toBig(base[0]), toBig(base[1])
	return inRange(p, 0, n) && inRange(q, 0, n) && isBase(n, parts, p, q)
}

// isBase reports whether P and Q have what a step ByPlus asks of them.
func isBase(n *big.Int, parts []*big.Int, p, q *big.Int) bool {
	after := add(n, one)
	if big.Jacobi(sub(mul(p, p), mul(big.NewInt(4), q)), n) != -1 || lucas(p, q, after, n).Sign() != 0 {
		return false
	}
	for _, r := range parts {
		if !coprime(lucas(p, q, quotient(after, r), n), n) {
			return false
		}
	}
	return true
}

// lucas returns U(k), by powers of x: x^k is U(k) x - Q U(k-1), if x^2 is P x - Q.
func lucas(p, q, k, n *big.Int) *big.Int {
	type number struct{ x, c *big.Int } // x times the variable, plus c
	product := func(a, b number) number {
		square := mul(a.x, b.x)
		x := add(add(mul(a.x, b.c), mul(a.c, b.x)), mul(p, square))
		return number{mod(x, n), mod(sub(mul(a.c, b.c), mul(q, square)), n)}
	}
	z, power := number{new(big.Int), one}, number{one, new(big.Int)}
	for i := range k.BitLen() {
		if k.Bit(i) == 1 {
			z = product(z, power)
		}
		power = product(power, power)
	}
	return z.x
}

func rightCurve(n *big.Int, parts []*big.Int, s api.Step) bool {
	if !coprime(n, big.NewInt(6)) || n.Cmp(big.NewInt(3)) <= 0 || len(parts) != 1 || !greatEnough(parts[0], n) {
		return false
	}
	a, b := toBig(s.Curve.A), toBig(s.Curve.B)
	if toBig(s.Curve.M).Cmp(n) != 0 || !inRange(a, 0, n) || !inRange(b, 0, n) || !coprime(add(mul(big.NewInt(4), a, a, a), mul(big.NewInt(27), b, b)), n) {
		return false
	}
	x, y := toBig(s.At.X), toBig(s.At.Y)
	if s.At.Inf || !inRange(x, 0, n) || !inRange(y, 0, n) || mod(sub(mul(y, y), add(mul(x, add(mul(x, x), a)), b)), n).Sign() != 0 {
		return false
	}
	order := toBig(s.Order)
	if order.Sign() <= 0 || !divides(parts[0], order) {
		return false
	}
	r, ok := multiple(a, n, quotient(order, parts[0]), place{x, y})
	if !ok || r == infinity {
		return false
	}
	r, ok = multiple(a, n, parts[0], r)
	return ok && r == infinity
}

// greatEnough reports whether q > (n^(1/4) + 1)^2, in another form than the chapter's: whether (sqrt(q) - 1)^4 = q^2 + 6 q + 1 - 4 (q + 1) sqrt(q) is greater than n.
func greatEnough(q, n *big.Int) bool {
	d := sub(add(mul(q, q), add(mul(big.NewInt(6), q), one)), n)
	return d.Sign() > 0 && mul(d, d).Cmp(mul(big.NewInt(16), add(q, one), add(q, one), q)) > 0
}

// place is a point of a curve.
type place struct{ x, y *big.Int }

var infinity = place{}

// sum returns the sum of two points, if there is one.
func sum(a, n *big.Int, p, q place) (place, bool) {
	if p == infinity {
		return q, true
	}
	if q == infinity {
		return p, true
	}
	up, down := sub(q.y, p.y), sub(q.x, p.x)
	if down.Sign() == 0 {
		if divides(n, add(p.y, q.y)) {
			return infinity, true
		}
		up, down = add(mul(big.NewInt(3), p.x, p.x), a), add(p.y, q.y)
	}
	if !coprime(down, n) {
		return infinity, false
	}
	s := mul(up, new(big.Int).ModInverse(mod(down, n), n))
	x := mod(sub(mul(s, s), add(p.x, q.x)), n)
	return place{x, mod(sub(mul(s, sub(p.x, x)), p.y), n)}, true
}

// multiple returns a multiple of a point, if it is found as layer 6 says.
func multiple(a, n, k *big.Int, p place) (place, bool) {
	r, ok := infinity, true
	for i := k.BitLen() - 1; i >= 0 && ok; i-- {
		r, ok = sum(a, n, r, r)
		if ok && k.Bit(i) == 1 {
			r, ok = sum(a, n, r, p)
		}
	}
	return r, ok
}
