package proof

import (
	"algorist/api"
	"algorist/integer"
	"algorist/modular"
	"algorist/point"
	"algorist/prime"
)

const tableEnd = 1 << 16 // smaller primes need no proof

// claim is a step with its part numbers, which are primes since the earlier steps are right.
type claim struct {
	api.Step
	primes []api.Int
}

// rule is what a kind of steps asks for: which fields it names, and the function that checks the rest.
type rule struct {
	base, curve bool
	check       func(claim)
}

// ruleOf returns the rule of a kind.
func ruleOf(kind int) rule {
	rules := map[int]rule{
		api.ByTable: {check: byTable},
		api.ByMinus: {check: byMinus, base: true},
		api.ByPlus:  {check: byPlus, base: true},
		api.ByCurve: {check: byCurve, curve: true},
	}
	r, ok := rules[kind]
	need(ok)
	return r
}

// need ends the check of a step unless a condition holds.
func need(holds bool) {
	if !holds {
		panic(api.ErrProof)
	}
}

// isRight reports whether a step is right after earlier ones, which are right.
func isRight(s api.Step, earlier []api.Step) (right bool) {
	defer func() {
		if recover() != nil {
			right = false
		}
	}()
	r := ruleOf(s.Kind)
	curve := curveNumbers(s)
	need(integer.Valid(s.N) && integer.Cmp(s.N, integer.Of(2)) >= 0)
	need(all(s.Base, integer.Valid) && all(curve, integer.Valid))
	need(r.base || len(s.Base) == 0)
	need(r.curve || !s.At.Inf && all(curve, isZero))
	r.check(claim{s, partNumbers(s.Parts, earlier)})
	return true
}

func curveNumbers(s api.Step) []api.Int {
	return []api.Int{s.Curve.A, s.Curve.B, s.Curve.M, s.At.X, s.At.Y, s.Order}
}

func partNumbers(parts []int, earlier []api.Step) []api.Int {
	var l []api.Int
	for _, i := range parts {
		need(0 <= i && i < len(earlier))
		l = append(l, earlier[i].N)
	}
	return l
}

func byTable(c claim) {
	need(len(c.Parts) == 0)
	need(integer.Cmp(c.N, integer.Of(tableEnd)) < 0)
	is, _ := prime.Is(c.N)
	need(is)
}

func byMinus(c claim) {
	need(isOdd(c.N))
	minus := before(c.N)
	need(isEnoughForMinus(c.product(minus), c.N))
	need(len(c.Base) == len(c.primes))
	for i, q := range c.primes {
		b := c.Base[i]
		need(integer.Cmp(b, integer.Of(2)) >= 0 && isResidue(b, c.N))
		need(isBaseForMinus(c.N, q, b))
	}
}

func byPlus(c claim) {
	need(isOdd(c.N))
	plus := after(c.N)
	need(isEnoughForPlus(c.product(plus), c.N))
	need(len(c.Base) == 2)
	p, q := c.Base[0], c.Base[1]
	need(isResidue(p, c.N) && isResidue(q, c.N))
	need(isBaseForPlus(c.N, c.primes, p, q))
}

func byCurve(c claim) {
	need(isCoprime(c.N, integer.Of(6))) // so it is greater than 3, too
	need(len(c.primes) == 1)
	q := c.primes[0]
	need(isEnoughForCurve(q, c.N))
	need(integer.Cmp(c.Curve.M, c.N) == 0 && isResidue(c.Curve.A, c.N) && isResidue(c.Curve.B, c.N))
	need(isCoprime(discriminant(c.Curve), c.N))
	need(point.On(c.Curve, c.At) && !c.At.Inf)
	cofactor, rest, _ := integer.DivMod(c.Order, q)
	need(integer.Sign(c.Order) > 0 && integer.Sign(rest) == 0)
	r := c.times(cofactor, c.At)
	need(!r.Inf)
	need(c.times(q, r).Inf)
}

// times returns a multiple, which has to exist.
func (c claim) times(n api.Int, p api.Point) api.Point {
	r, _, e := point.Times(c.Curve, n, p)
	need(e == api.OK)
	return r
}

// product returns the product of the greatest powers of the part numbers that divide m. Each one has to divide what the others before it leave; so they are different.
func (c claim) product(m api.Int) api.Int {
	rest := m
	for _, q := range c.primes {
		left := without(rest, q)
		need(integer.Cmp(left, rest) != 0)
		rest = left
	}
	return quotient(m, rest)
}

// discriminant returns 4 A^3 + 27 B^2, which is 0 modulo a prime exactly if the curve has a singular point modulo it.
func discriminant(c api.Mod) api.Int {
	cube, _ := modular.Pow(c.A, integer.Of(3), c.M)
	square, _ := modular.Pow(c.B, integer.Of(2), c.M)
	return integer.Add(integer.Mul(integer.Of(4), cube), integer.Mul(integer.Of(27), square))
}
