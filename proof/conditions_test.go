package proof_test

// P7.1 and P7.5: steps in which one condition of the chapter does not hold, next to steps in which all do. The expected indices are written out.

import (
	"math"
	"slices"
	"testing"

	"algorist/api"
)

// list is a list of steps, and the index of its first wrong one, -1 if all are right.
type list struct {
	what  string
	l     []api.Step
	wrong int
}

func expectAll(t *testing.T, lists []list) {
	t.Helper()
	for _, x := range lists {
		expect(t, x.what, x.l, x.wrong)
	}
}

// with returns a step after a change.
func with(s api.Step, change func(*api.Step)) api.Step {
	s = copied(steps(s))[0]
	change(&s)
	return s
}

// zeroWord returns the same number with a word of 0 at the end.
func zeroWord(a api.Int) api.Int { return api.Int{Neg: a.Neg, Mag: append(slices.Clone(a.Mag), 0)} }

var minusZero = api.Int{Neg: true}

// examples returns a right step of each kind, after the step ByTable for its part.
func examples() [][]api.Step {
	return [][]api.Step{
		steps(table(3), table(7)),
		steps(table(2), minus(65537, []int{0}, 3)),
		steps(table(2), plus(7, []int{0}, 1, 3)),
		steps(table(11), byCurve(23, 0, 1, 5, 3, 9, 22)),
	}
}

func TestNumbers(t *testing.T) {
	expectAll(t, []list{
		{"0", steps(table(0)), 0}, {"1", steps(table(1)), 0}, {"-7", steps(table(-7)), 0}, {"2", steps(table(2)), -1}, {"4", steps(table(4)), 0}, {"65521", steps(table(65521)), -1}, {"65535", steps(table(65535)), 0}, {"65537", steps(table(65537)), 0}, {"nothing at all", steps(api.Step{}), 0},
		{"1 by 0", steps(table(2), minus(1, nil)), 1}, {"1 by 2", steps(table(2), plus(1, []int{0}, 0, 0)), 1}, {"-3 by -4", steps(table(2), minus(-3, []int{0}, 2)), 1}, {"2 by 1", steps(minus(2, nil)), 0}, {"2 by 3", steps(table(3), plus(2, []int{0}, 1, 1)), 1},
		{"4 by 3", steps(table(3), minus(4, []int{0}, 3)), 1}, {"8 by 7", steps(table(7), minus(8, []int{0}, 3)), 1}, {"8 by 9", steps(table(3), plus(8, []int{0}, 1, 3)), 1},
		{"a word of 0", steps(with(table(7), func(s *api.Step) { s.N = zeroWord(s.N) })), 0},
		{"a word of 0 behind", steps(table(2), with(table(7), func(s *api.Step) { s.N = zeroWord(s.N) }), table(4)), 1},
	})
	for _, l := range examples() {
		expect(t, "an example", l, -1)
		for _, change := range []func(*api.Step){
			func(s *api.Step) { s.N = zeroWord(s.N) },
			func(s *api.Step) { s.N.Neg = true },
			func(s *api.Step) { s.N = api.Int{} },
			func(s *api.Step) { s.N = minusZero },
			func(s *api.Step) { s.N = num(1) },
			func(s *api.Step) { s.Kind = 0 },
			func(s *api.Step) { s.Kind = 5 },
			func(s *api.Step) { s.Kind = -1 },
			func(s *api.Step) { s.Kind = math.MinInt },
			func(s *api.Step) { s.Kind = math.MaxInt },
			func(s *api.Step) { s.Kind = s.Kind%4 + 1 },
			func(s *api.Step) { s.Kind += 4 },
		} {
			expect(t, "a changed number or kind", steps(l[0], with(l[1], change)), 1)
		}
	}
}

// Fields that a kind does not name are zero values, also where they would change nothing.
func TestOtherFields(t *testing.T) {
	number := func(change func(*api.Step, api.Int)) []func(*api.Step) {
		var out []func(*api.Step)
		for _, z := range []api.Int{num(1), num(-1), num(1 << 40), minusZero, zeroWord(api.Int{}), zeroWord(num(5))} {
			out = append(out, func(s *api.Step) { change(s, z) })
		}
		return out
	}
	curve := slices.Concat(
		number(func(s *api.Step, z api.Int) { s.Curve.A = z }),
		number(func(s *api.Step, z api.Int) { s.Curve.B = z }),
		number(func(s *api.Step, z api.Int) { s.Curve.M = z }),
		number(func(s *api.Step, z api.Int) { s.At.X = z }),
		number(func(s *api.Step, z api.Int) { s.At.Y = z }),
		number(func(s *api.Step, z api.Int) { s.Order = z }),
		[]func(*api.Step){func(s *api.Step) { s.At.Inf = true }},
	)
	base := number(func(s *api.Step, z api.Int) { s.Base = []api.Int{z} })
	base = append(base, func(s *api.Step) { s.Base = []api.Int{{}} }, func(s *api.Step) { s.Base = []api.Int{{}, {}} })
	for k, l := range examples() {
		changes := curve
		switch k + 1 {
		case api.ByTable:
			changes = slices.Concat(curve, base)
		case api.ByCurve:
			changes = base
		}
		for _, change := range changes {
			expect(t, "a field that is not named", steps(l[0], with(l[1], change)), 1)
		}
	}
	none, zero := api.Int{Mag: []uint32{}}, api.Mod{A: api.Int{Mag: []uint32{}}, B: api.Int{Mag: []uint32{}}, M: api.Int{Mag: []uint32{}}}
	empty := func(s *api.Step) { s.Curve, s.At, s.Order = zero, api.Point{X: none, Y: none}, none }
	expectAll(t, []list{
		{"empty slices", steps(with(table(7), func(s *api.Step) { s.Parts, s.Base = []int{}, []api.Int{}; empty(s) })), -1},
		{"empty slices", steps(table(2), with(minus(65537, []int{0}, 3), empty)), -1},
		{"empty slices", steps(table(2), with(plus(7, []int{0}, 1, 3), empty)), -1},
		{"an empty base", steps(table(11), with(byCurve(23, 0, 1, 5, 3, 9, 22), func(s *api.Step) { s.Base = []api.Int{} })), -1},
		{"a number without words", steps(table(23), with(byCurve(23, 0, 5, 3, 0, 7, 23), func(s *api.Step) { s.At.X = none })), -1},
	})
}

// Parts are indices of earlier steps, with different numbers.
func TestParts(t *testing.T) {
	parts := func(s api.Step, p ...int) api.Step { return with(s, func(s *api.Step) { s.Parts = p }) }
	circle := byCurve(7, 0, 3, 5, 1, 3, 7) // seven points: only by its part, it is not right
	expectAll(t, []list{
		{"7 by 7", steps(table(7), circle), -1}, {"7 by itself", steps(circle), 0}, {"7 by itself", steps(table(2), parts(circle, 1)), 1}, {"7 by a later 7", steps(parts(circle, 1), table(7)), 0}, {"7 by a later 7", steps(table(3), parts(circle, 2), table(7)), 1},
		{"a later part", steps(minus(65537, []int{1}, 3), table(2)), 0}, {"a part of none", steps(table(2), minus(65537, []int{2}, 3)), 1},
		{"2 twice", steps(table(2), minus(13, []int{0, 0}, 2, 2)), 1}, {"2 twice", steps(table(2), table(2), minus(13, []int{0, 1}, 2, 2)), 2}, {"2 once", steps(table(2), table(2), minus(13, []int{1}, 2)), -1}, {"3 twice", steps(table(3), minus(13, []int{0, 0}, 2, 2)), 1},
		{"2 twice", steps(table(2), plus(7, []int{0, 0}, 1, 3)), 1}, {"2 twice", steps(table(2), table(2), plus(7, []int{1, 0}, 1, 3)), 2}, {"2, 3 and 2", steps(table(2), table(3), minus(31, []int{0, 1, 0}, 3, 3, 3)), 2}, {"3, 2 and 2", steps(table(2), table(3), minus(31, []int{1, 0, 0}, 3, 3, 3)), 2},
		{"7 twice", steps(table(7), parts(circle, 0, 0)), 1}, {"7 and 2", steps(table(7), table(2), parts(circle, 0, 1)), 2}, {"2 and 7", steps(table(7), table(2), parts(circle, 1, 0)), 2}, {"no part", steps(table(7), parts(circle)), 1},
		{"7 with a part", steps(table(2), parts(table(7), 0)), 1}, {"2 with itself", steps(parts(table(2), 0)), 0},
		{"no part", steps(table(2), minus(65537, nil)), 1}, {"no part, but a base", steps(table(2), minus(65537, nil, 3)), 1}, {"no part", steps(table(2), plus(7, nil, 1, 3)), 1},
		{"a wrong part", steps(table(4), minus(5, []int{0}, 2)), 0}, {"after a wrong step", steps(table(2), table(4), table(6), minus(65537, []int{0}, 3)), 1},
	})
	for _, i := range []int{-1, 2, 3, 1 << 32, -1 << 32, math.MaxInt, math.MinInt} {
		expect(t, "a part of none", steps(table(2), minus(65537, []int{i}, 3)), 1)
		expect(t, "a part of none", steps(table(2), plus(7, []int{i}, 1, 3)), 1)
		expect(t, "a part of none", steps(table(7), parts(circle, i)), 1)
		expect(t, "a part of none", steps(table(2), minus(13, []int{0, i}, 2, 2)), 1)
		expect(t, "a part of none", steps(table(2), parts(table(7), i)), 1)
	}
}

func TestMinusConditions(t *testing.T) {
	two, three, five, seven := table(2), table(3), table(5), table(7)
	first := []int{0}
	expectAll(t, []list{
		{"3", steps(two, minus(3, first, 2)), -1}, {"7", steps(two, three, minus(7, []int{0, 1}, 6, 5)), -1}, {"7, parts turned", steps(two, three, minus(7, []int{1, 0}, 5, 6)), -1}, {"7, bases turned", steps(two, three, minus(7, []int{0, 1}, 2, 6)), 2},
		{"31 by 6", steps(two, three, minus(31, []int{0, 1}, 3, 3)), -1}, {"31 by 5", steps(five, minus(31, first, 2)), 1}, {"43 by 7", steps(seven, minus(43, first, 2)), -1}, {"43 by 6", steps(two, three, minus(43, []int{0, 1}, 2, 3)), 2}, {"43 by 42", steps(two, three, seven, minus(43, []int{0, 1, 2}, 2, 3, 2)), -1},
		{"37 by 9", steps(three, minus(37, first, 2)), -1}, {"37 by 4", steps(two, minus(37, first, 2)), 1}, {"101 by 25", steps(five, minus(101, first, 2)), -1}, {"101 by 4", steps(two, minus(101, first, 2)), 1}, {"131 by 10", steps(two, five, minus(131, []int{0, 1}, 2, 2)), 2}, {"131 by 13", steps(table(13), minus(131, first, 2)), -1},
		{"3 does not divide 65536", steps(two, three, minus(65537, []int{0, 1}, 3, 3)), 2}, {"3 does not divide 65536", steps(three, minus(65537, first, 3)), 1}, {"7 divides 35, not 34", steps(seven, minus(35, first, 3)), 1},
		{"no base", steps(two, minus(65537, first)), 1}, {"two bases", steps(two, minus(65537, first, 3, 3)), 1}, {"one base", steps(two, three, minus(7, []int{0, 1}, 3)), 2}, {"three bases", steps(two, three, minus(7, []int{0, 1}, 3, 3, 3)), 2},
		{"the base 2 has a small order", steps(two, minus(65537, first, 2)), 1}, {"the base 0", steps(two, minus(65537, first, 0)), 1}, {"the base 1", steps(two, minus(65537, first, 1)), 1}, {"the base n - 1", steps(two, minus(65537, first, 65536)), 1}, {"the base n - 3", steps(two, minus(65537, first, 65534)), -1}, {"the base n + 3", steps(two, minus(65537, first, 65540)), 1}, {"the base -3", steps(two, minus(65537, first, -3)), 1}, {"the base n", steps(two, minus(65537, first, 65537)), 1}, {"the base 2^40 + 3", steps(two, minus(65537, first, 1<<40+3)), 1},
		{"a base with a word of 0", steps(two, with(minus(65537, first, 3), func(s *api.Step) { s.Base[0] = zeroWord(s.Base[0]) })), 1},
		{"3 has not the order 6", steps(two, three, minus(31, []int{0, 1}, 5, 3)), 2}, {"only the first base is right", steps(two, three, minus(31, []int{0, 1}, 3, 2)), 2},
		{"a composite number, by Fermat", steps(two, five, minus(561, []int{0, 1}, 5, 2)), 2}, {"a composite number, by Fermat", steps(two, seven, minus(645, []int{0, 1}, 2, 2)), 2}, {"a composite number, by Fermat", steps(two, three, minus(1105, []int{0, 1}, 3, 2)), 2},
		{"a composite number, not by Fermat", steps(seven, minus(15, first, 3)), 1}, {"a composite number, not by Fermat", steps(two, minus(9, first, 3)), 1}, {"a composite number, not by Fermat", steps(table(17), minus(35, first, 2)), 1}, {"a composite number, not by Fermat", steps(two, minus(33, first, 3)), 1},
		{"a composite number with small powers", steps(two, minus(91, first, 90)), 1}, {"a composite number with small powers", steps(two, minus(15, first, 14)), 1}, {"a composite number with small powers", steps(three, minus(91, first, 9)), 1}, {"a composite number with small powers", steps(three, minus(217, first, 25)), 1},
	})
}

func TestPlusConditions(t *testing.T) {
	two, three, five, eleven := table(2), table(3), table(5), table(11)
	first := []int{0}
	expectAll(t, []list{
		{"3", steps(two, plus(3, first, 1, 2)), -1}, {"7", steps(two, plus(7, first, 1, 6)), -1}, {"7, the greatest numbers", steps(two, plus(7, first, 6, 6)), -1}, {"31", steps(two, plus(31, first, 1, 12)), -1}, {"47", steps(two, three, plus(47, []int{0, 1}, 1, 13)), -1}, {"47 by 16", steps(two, plus(47, first, 46, 46)), -1},
		{"5 by 6", steps(two, three, plus(5, []int{0, 1}, 1, 2)), -1}, {"5 by 3", steps(three, plus(5, first, 1, 1)), 1}, {"11 by 12", steps(two, three, plus(11, []int{1, 0}, 1, 7)), -1}, {"11 by 4", steps(two, plus(11, first, 1, 7)), 1}, {"19 by 20", steps(two, five, plus(19, []int{0, 1}, 1, 2)), -1}, {"19 by 5", steps(five, plus(19, first, 1, 2)), 1}, {"29 by 6", steps(two, three, plus(29, []int{0, 1}, 1, 3)), 2}, {"29 by 30", steps(two, three, five, plus(29, []int{0, 1, 2}, 1, 3)), -1}, {"71 by 9", steps(three, plus(71, first, 1, 4)), 1}, {"239 by 16", steps(two, plus(239, first, 1, 13)), 1}, {"239 by 48", steps(two, three, plus(239, []int{0, 1}, 1, 13)), -1},
		{"131 by 33", steps(three, eleven, plus(131, []int{0, 1}, 1, 3)), -1}, {"131 by 11", steps(eleven, plus(131, first, 1, 3)), 1},
		{"3 does not divide 8", steps(two, three, plus(7, []int{0, 1}, 1, 3)), 2}, {"3 divides 6, not 8", steps(two, three, plus(7, []int{1, 0}, 1, 3)), 2}, {"5 does not divide 12", steps(two, five, three, plus(11, []int{0, 1, 2}, 1, 7)), 3},
		{"no numbers", steps(two, plus(7, first)), 1}, {"one number", steps(two, plus(7, first, 1)), 1}, {"three numbers", steps(two, plus(7, first, 1, 3, 3)), 1}, {"numbers turned", steps(two, plus(7, first, 3, 1)), 1},
		{"P + n", steps(two, plus(7, first, 8, 3)), 1}, {"Q + n", steps(two, plus(7, first, 1, 10)), 1}, {"P - n", steps(two, plus(7, first, -6, 3)), 1}, {"-P", steps(two, plus(7, first, -1, 3)), 1}, {"Q - n", steps(two, plus(7, first, 1, -4)), 1}, {"n - P", steps(two, plus(7, first, 6, 3)), -1}, {"P = n", steps(two, plus(7, first, 7, 3)), 1}, {"Q = n", steps(two, plus(7, first, 1, 7)), 1},
		{"P with a word of 0", steps(two, with(plus(7, first, 1, 3), func(s *api.Step) { s.Base[0] = zeroWord(s.Base[0]) })), 1}, {"Q with a word of 0", steps(two, with(plus(7, first, 1, 3), func(s *api.Step) { s.Base[1] = zeroWord(s.Base[1]) })), 1},
		{"the symbol 1", steps(two, plus(7, first, 3, 0)), 1}, {"the symbol 0", steps(two, plus(7, first, 2, 1)), 1}, {"the symbol 1", steps(two, plus(7, first, 1, 2)), 1},
		{"U(4) is 0", steps(two, plus(7, first, 1, 4)), 1}, {"U(4) is 0", steps(two, plus(7, first, 6, 4)), 1}, {"P is 0", steps(two, plus(7, first, 0, 1)), 1}, {"P is 0", steps(two, plus(7, first, 0, 4)), 1},
		{"a composite number, by U(n + 1)", steps(two, three, plus(455, []int{0, 1}, 1, 48)), 2}, {"a composite number, by U(n + 1)", steps(two, three, plus(455, []int{0, 1}, 2, 17)), 2},
		{"a composite number, not by U(n + 1)", steps(two, plus(15, first, 1, 6)), 1}, {"a composite number, not by U(n + 1)", steps(two, plus(15, first, 4, 12)), 1},
	})
}

func TestCurveConditions(t *testing.T) {
	seven, eleven := table(7), table(11)
	s := byCurve(23, 0, 1, 5, 3, 9, 22)
	expectAll(t, []list{
		{"23", steps(eleven, s), -1}, {"the opposite point", steps(eleven, byCurve(23, 0, 1, 5, 3, 14, 22)), -1}, {"5", steps(seven, byCurve(5, 0, 2, 1, 0, 1, 7)), -1}, {"13", steps(eleven, byCurve(13, 0, 7, 6, 1, 1, 11)), -1}, {"23 by 23", steps(table(23), byCurve(23, 0, 5, 3, 0, 7, 23)), -1}, {"23 by 13", steps(table(13), byCurve(23, 0, 1, 18, 0, 8, 13)), -1},
		{"a greater multiple", steps(eleven, byCurve(23, 0, 1, 5, 3, 9, 44)), -1}, {"a greater multiple", steps(eleven, byCurve(23, 0, 1, 5, 3, 9, 22*1000003)), -1}, {"a multiple of 11 squared", steps(eleven, byCurve(23, 0, 1, 5, 3, 9, 242)), 1}, {"no multiple of the order", steps(eleven, byCurve(23, 0, 1, 5, 3, 9, 11)), 1}, {"no multiple of the order", steps(eleven, byCurve(23, 0, 1, 5, 3, 9, 33)), 1}, {"no multiple of 11", steps(eleven, byCurve(23, 0, 1, 5, 3, 9, 23)), 1}, {"no multiple of 11", steps(eleven, byCurve(23, 0, 1, 5, 3, 9, 32)), 1}, {"no multiple of 11", steps(eleven, byCurve(23, 0, 1, 5, 3, 9, 21)), 1}, {"no multiple of 11", steps(table(13), s), 1},
		{"a negative order", steps(eleven, byCurve(23, 0, 1, 5, 3, 9, -22)), 1}, {"the order 0", steps(eleven, byCurve(23, 0, 1, 5, 3, 9, 0)), 1}, {"an order with a word of 0", steps(eleven, with(s, func(s *api.Step) { s.Order = zeroWord(s.Order) })), 1},
		{"the other factor", steps(table(2), s), 1},
		{"11 by 7", steps(seven, byCurve(11, 0, 1, 1, 0, 1, 7)), 1}, {"11 by 7", steps(seven, byCurve(11, 0, 1, 1, 1, 5, 14)), 1}, {"13 by 7", steps(seven, byCurve(13, 0, 1, 4, 0, 2, 7)), 1},
		{"11119 by 127", steps(table(127), byCurve(11119, 0, 3844, 8174, 1070, 661, 11176)), -1}, {"11131 by 127", steps(table(127), byCurve(11131, 0, 2604, 2928, 1684, 7128, 11303)), 1}, {"48533 by 251", steps(table(251), byCurve(48533, 0, 4439, 40618, 32289, 16228, 48694)), -1}, {"48539 by 251", steps(table(251), byCurve(48539, 0, 43308, 24614, 2001, 40793, 48945)), 1}, {"216107 by 509", steps(table(509), byCurve(216107, 0, 163072, 183915, 155345, 27011, 216325)), -1}, {"216113 by 509", steps(table(509), byCurve(216113, 0, 128577, 29609, 132616, 97354, 216834)), 1},
		{"217, where 5 points are modulo 7 and 31", steps(table(5), byCurve(217, 0, 155, 197, 126, 71, 5)), 1},
		{"another modulus", steps(eleven, with(s, func(s *api.Step) { s.Curve.M = num(29) })), 1}, {"another number", steps(eleven, with(s, func(s *api.Step) { s.N = num(25) })), 1}, {"another number", steps(eleven, with(s, func(s *api.Step) { s.N = num(19) })), 1}, {"no modulus", steps(eleven, with(s, func(s *api.Step) { s.Curve.M = api.Int{} })), 1}, {"a modulus with a word of 0", steps(eleven, with(s, func(s *api.Step) { s.Curve.M = zeroWord(s.Curve.M) })), 1},
		{"3", steps(seven, byCurve(3, 0, 2, 1, 0, 1, 7)), 1}, {"9", steps(eleven, byCurve(9, 0, 2, 1, 0, 1, 11)), 1}, {"even", steps(eleven, byCurve(22, 0, 1, 5, 3, 9, 22)), 1}, {"2", steps(table(5), byCurve(2, 0, 1, 1, 0, 1, 5)), 1},
		{"A + n", steps(eleven, byCurve(23, 0, 24, 5, 3, 9, 22)), 1}, {"B + n", steps(eleven, byCurve(23, 0, 1, 28, 3, 9, 22)), 1}, {"A - n", steps(eleven, byCurve(23, 0, -22, 5, 3, 9, 22)), 1}, {"B - n", steps(eleven, byCurve(23, 0, 1, -18, 3, 9, 22)), 1}, {"X + n", steps(eleven, byCurve(23, 0, 1, 5, 26, 9, 22)), 1}, {"Y + n", steps(eleven, byCurve(23, 0, 1, 5, 3, 32, 22)), 1}, {"Y - n", steps(eleven, byCurve(23, 0, 1, 5, 3, -14, 22)), 1}, {"X - n", steps(eleven, byCurve(23, 0, 1, 5, -20, 9, 22)), 1},
		{"no point of the curve", steps(eleven, byCurve(23, 0, 1, 5, 3, 8, 22)), 1}, {"no point of the curve", steps(eleven, byCurve(23, 0, 1, 5, 2, 9, 22)), 1}, {"the point of another curve", steps(eleven, byCurve(23, 0, 1, 6, 3, 9, 22)), 1}, {"infinity", steps(eleven, with(s, func(s *api.Step) { s.At = api.Point{Inf: true} })), 1}, {"infinity with numbers", steps(eleven, with(s, func(s *api.Step) { s.At.Inf = true })), 1},
		{"A with a word of 0", steps(eleven, with(s, func(s *api.Step) { s.Curve.A = zeroWord(s.Curve.A) })), 1}, {"B with a word of 0", steps(eleven, with(s, func(s *api.Step) { s.Curve.B = zeroWord(s.Curve.B) })), 1}, {"X with a word of 0", steps(eleven, with(s, func(s *api.Step) { s.At.X = zeroWord(s.At.X) })), 1}, {"Y with a word of 0", steps(eleven, with(s, func(s *api.Step) { s.At.Y = zeroWord(s.At.Y) })), 1}, {"X is -0", steps(table(23), with(byCurve(23, 0, 5, 3, 0, 7, 23), func(s *api.Step) { s.At.X = minusZero })), 1},
		{"a cusp", steps(seven, byCurve(7, 0, 0, 0, 1, 1, 7)), 1}, {"a cusp", steps(table(23), byCurve(23, 0, 0, 0, 1, 1, 23)), 1}, {"a node", steps(eleven, byCurve(23, 0, 20, 2, 2, 2, 22)), 1}, {"a node", steps(eleven, byCurve(23, 0, 20, 2, 2, 2, 44)), 1},
	})
}
