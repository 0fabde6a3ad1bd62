package rational_test

import (
	"math/big"
	"math/rand"
	"slices"
	"testing"

	"algorist/api"
	"algorist/integer"
	"algorist/rational"
)

// equal checks that two ways of computing a number lead to the same value.
func equal(t *testing.T, law string, a, b api.Rat) {
	t.Helper()
	if !same(a, b) || !rational.Valid(a) {
		t.Errorf("%s: %v, %v", law, a, b)
	}
}

// P2.2: sums and products are commutative, associative and distributive; differences and quotients undo them.
func TestField(t *testing.T) {
	zero, one := rat(0, 1), rat(1, 1)
	for _, a := range few() {
		equal(t, "a + 0 = a", rational.Add(a, zero), a)
		equal(t, "a 1 = a", rational.Mul(a, one), a)
		equal(t, "a 0 = 0", rational.Mul(a, zero), zero)
		equal(t, "a - a = 0", rational.Sub(a, a), zero)
		for _, b := range few() {
			equal(t, "a + b = b + a", rational.Add(a, b), rational.Add(b, a))
			equal(t, "a b = b a", rational.Mul(a, b), rational.Mul(b, a))
			equal(t, "(a + b) - b = a", rational.Sub(rational.Add(a, b), b), a)
			equal(t, "(a - b) + b = a", rational.Add(rational.Sub(a, b), b), a)
			if rational.Sign(b) != 0 {
				equal(t, "(a b) / b = a", div(t, rational.Mul(a, b), b), a)
				equal(t, "(a / b) b = a", rational.Mul(div(t, a, b), b), a)
				equal(t, "b / b = 1", div(t, b, b), one)
			}
			for _, c := range few() {
				equal(t, "(a + b) + c = a + (b + c)", rational.Add(rational.Add(a, b), c), rational.Add(a, rational.Add(b, c)))
				equal(t, "(a b) c = a (b c)", rational.Mul(rational.Mul(a, b), c), rational.Mul(a, rational.Mul(b, c)))
				equal(t, "a (b + c) = a b + a c", rational.Mul(a, rational.Add(b, c)), rational.Add(rational.Mul(a, b), rational.Mul(a, c)))
			}
		}
	}
}

// P2.3: Cmp is a total order that sums keep, and products with positive numbers; the floor is the integer below.
func TestOrder(t *testing.T) {
	for _, a := range few() {
		floorIsBelow(t, a)
		if rational.Sign(a) != rational.Cmp(a, rat(0, 1)) {
			t.Errorf("the sign of %v", a)
		}
		for _, b := range few() {
			ab := rational.Cmp(a, b)
			if ab != -rational.Cmp(b, a) || (ab == 0) != same(a, b) || ab != rational.Sign(rational.Sub(a, b)) {
				t.Errorf("the order of %v and %v", a, b)
			}
			for _, c := range few() {
				if rational.Cmp(rational.Add(a, c), rational.Add(b, c)) != ab {
					t.Errorf("the order of %v and %v, after %v is added", a, b, c)
				}
				if rational.Cmp(rational.Mul(a, c), rational.Mul(b, c)) != ab*rational.Sign(c) {
					t.Errorf("the order of %v and %v, times %v", a, b, c)
				}
				if bc := rational.Cmp(b, c); ab == bc && rational.Cmp(a, c) != ab {
					t.Errorf("the order of %v, %v and %v", a, b, c)
				}
			}
		}
	}
}

// floorIsBelow checks that the floor of a is an integer that is at most a, and that the next one is greater.
func floorIsBelow(t *testing.T, a api.Rat) {
	t.Helper()
	n := rational.Floor(a)
	low := api.Rat{N: n, D: integer.Of(1)}
	high := api.Rat{N: integer.Add(n, integer.Of(1)), D: integer.Of(1)}
	if !rational.Valid(low) || rational.Cmp(low, a) > 0 || rational.Cmp(high, a) <= 0 {
		t.Errorf("the floor of %v is %v", a, n)
	}
}

// P2.4: Parse inverts Text.
func TestTextsAreRead(t *testing.T) {
	as := rats()
	for _, x := range small(8) {
		as = append(as, fromRat(x))
	}
	for _, a := range as {
		s, e := rational.Text(a)
		if e != api.OK {
			continue
		}
		b, f := rational.Parse(s)
		if f != api.OK {
			t.Errorf("Parse(%q): error %d", s, f)
		}
		equal(t, "Parse(Text(a)) = a", b, a)
	}
}

// P2.4: what Parse accepts is printed as it was; and of the short texts, it accepts those that math/big prints.
func TestReadTextsArePrinted(t *testing.T) {
	texts := map[string]bool{}
	for d := int64(1); d < 1000; d++ {
		for n := int64(-999); n < 1000; n++ {
			texts[big.NewRat(n, d).RatString()] = true
		}
	}
	for n := int64(-9999); n < 100000; n++ { // with a denominator of 4 digits, there is no room for a numerator
		texts[big.NewRat(n, 1).RatString()] = true
	}
	for n := int64(1); n < 10; n++ {
		texts[big.NewRat(1, n).RatString()] = true
		for d := int64(100); d < 1000; d++ {
			texts[big.NewRat(n, d).RatString()] = true
			texts[big.NewRat(d, n).RatString()] = true
		}
	}
	short := []string{""}
	for i := 0; len(short[i]) < 5; i++ {
		for _, c := range "-/01246+ " {
			short = append(short, short[i]+string(c))
		}
	}
	for _, s := range short {
		a, e := rational.Parse(s)
		if !texts[s] {
			if e != api.ErrForm || !isZeroValue(a) {
				t.Errorf("Parse(%q) = %v, %d", s, a, e)
			}
			continue
		}
		back, f := rational.Text(a)
		if e != api.OK || f != api.OK || back != s || !rational.Valid(a) {
			t.Errorf("Text(Parse(%q)) = %q, %d, %d", s, back, e, f)
		}
	}
}

// P2.5: results of operations on intervals have the results for all of their numbers, and their ends are such results.
func TestIntervalsHaveResults(t *testing.T) {
	grid := small(2)
	for _, a := range spans(grid) {
		for _, b := range spans(grid) {
			xs, ys := inside(grid, a), inside(grid, b)
			hasResults(t, rational.IAdd(a.value(), b.value()), rational.Add, xs, ys)
			hasResults(t, rational.ISub(a.value(), b.value()), rational.Sub, xs, ys)
			hasResults(t, rational.IMul(a.value(), b.value()), rational.Mul, xs, ys)
		}
		for _, q := range grid {
			hasResults(t, rational.Scale(a.value(), fromRat(q)), rational.Mul, inside(grid, a), []api.Rat{fromRat(q)})
		}
	}
	for _, a := range long() {
		for _, b := range long() {
			xs, ys := some(a), some(b)
			hasResults(t, rational.IAdd(a.value(), b.value()), rational.Add, xs, ys)
			hasResults(t, rational.ISub(a.value(), b.value()), rational.Sub, xs, ys)
			hasResults(t, rational.IMul(a.value(), b.value()), rational.Mul, xs, ys)
			hasResults(t, rational.Scale(a.value(), ys[0]), rational.Mul, xs, ys[:1])
		}
	}
}

// inside returns the numbers of a list that are in an interval.
func inside(qs []*big.Rat, s span) []api.Rat {
	var as []api.Rat
	for _, q := range qs {
		if s.lo.Cmp(q) <= 0 && q.Cmp(s.hi) <= 0 {
			as = append(as, fromRat(q))
		}
	}
	return as
}

// some returns the ends of an interval, and the number in the middle.
func some(s span) []api.Rat {
	middle := new(big.Rat).Add(s.lo, s.hi)
	return []api.Rat{fromRat(s.lo), fromRat(middle.Quo(middle, big.NewRat(2, 1))), fromRat(s.hi)}
}

// hasResults checks that an interval has all results, and that its ends are among them.
func hasResults(t *testing.T, i api.Interval, op func(a, b api.Rat) api.Rat, xs, ys []api.Rat) {
	t.Helper()
	lo, hi := toRat(i.Lo), toRat(i.Hi)
	isLo, isHi := false, false
	for _, x := range xs {
		for _, y := range ys {
			q := toRat(op(x, y))
			if lo.Cmp(q) > 0 || q.Cmp(hi) > 0 {
				t.Fatalf("%v is not in %v", q, i)
			}
			isLo = isLo || lo.Cmp(q) == 0
			isHi = isHi || hi.Cmp(q) == 0
		}
	}
	if !isLo || !isHi || !rational.Valid(i.Lo) || !rational.Valid(i.Hi) {
		t.Fatalf("the ends of %v are no results for %v and %v", i, xs, ys)
	}
}

// P2.6, by looking through all numbers: the simplest one is the first in an order by denominators, and by numerators.
func TestSimplestOfAll(t *testing.T) {
	qs := small(6)
	simple := slices.Clone(qs)
	slices.SortStableFunc(simple, func(x, y *big.Rat) int {
		if c := x.Denom().Cmp(y.Denom()); c != 0 {
			return c
		}
		return x.Num().CmpAbs(y.Num())
	})
	for i, x := range qs {
		if i%3 > 0 && i%7 > 0 {
			continue
		}
		for _, y := range qs[i:] {
			first := slices.IndexFunc(simple, func(q *big.Rat) bool { return x.Cmp(q) <= 0 && q.Cmp(y) <= 0 })
			expect(t, between(t, fromRat(x), fromRat(y)), simple[first], "Between", x, y)
		}
	}
}

// P2.6, for numbers of any length.
func TestSimplestOfLong(t *testing.T) {
	r := rand.New(rand.NewSource(3))
	qs := samples()
	for range 40 {
		qs = append(qs, new(big.Rat).SetFrac(words(r, 1+r.Intn(8)), words(r, 1+r.Intn(8))))
	}
	for _, x := range qs {
		for _, y := range qs {
			if x.Cmp(y) <= 0 {
				isSimplest(t, x, y)
			}
		}
		// another number that is near, so that both have a long way in common
		isSimplest(t, x, new(big.Rat).Add(x, new(big.Rat).SetFrac(big.NewInt(1), words(r, 12))))
	}
	// the quotients of Fibonacci numbers have the longest ways
	a, b := big.NewInt(1), big.NewInt(1)
	for range 5800 {
		a, b = b, new(big.Int).Add(a, b)
	}
	c := new(big.Int).Add(a, b)
	x, y := new(big.Rat).SetFrac(a, b), new(big.Rat).SetFrac(b, c)
	isSimplest(t, x, x)
	isSimplest(t, y, y)
	if x.Cmp(y) > 0 {
		x, y = y, x
	}
	isSimplest(t, x, y)
	isSimplest(t, new(big.Rat).Neg(y), new(big.Rat).Neg(x))
}

// isSimplest checks the number between x and y by its neighbors among the fractions with smaller denominators: if neither of these is between x and y, no other one with a denominator that is not greater can be.
func isSimplest(t *testing.T, x, y *big.Rat) {
	t.Helper()
	got := between(t, fromRat(x), fromRat(y))
	q := toRat(got)
	expect(t, got, q, "Between", x, y)
	if q.Cmp(x) < 0 || q.Cmp(y) > 0 {
		t.Fatalf("Between(%v, %v) = %v", x, y, q)
	}
	if q.IsInt() {
		next := new(big.Rat).Sub(q, big.NewRat(int64(q.Sign()), 1)) // nearer to 0
		if q.Sign() != 0 && next.Cmp(x) >= 0 && next.Cmp(y) <= 0 {
			t.Fatalf("Between(%v, %v) = %v, but %v is simpler", x, y, q, next)
		}
		return
	}
	n, d := q.Num(), q.Denom()
	below := new(big.Int).ModInverse(n, d) // the denominator of the neighbor u/below with n below - u d = 1
	u := new(big.Int).Mul(n, below)
	u.Sub(u, big.NewInt(1)).Quo(u, d)
	low := new(big.Rat).SetFrac(u, below)
	high := new(big.Rat).SetFrac(new(big.Int).Sub(n, u), new(big.Int).Sub(d, below))
	if low.Cmp(x) >= 0 || high.Cmp(y) <= 0 {
		t.Fatalf("Between(%v, %v) = %v, but %v or %v is simpler", x, y, q, low, high)
	}
}

// P2.7: numbers that are equal have equal representations, however they were computed.
func TestEqualNumbersAreSame(t *testing.T) {
	for _, a := range few() {
		for _, b := range few() {
			for _, k := range []int64{1, -1, 2, -6, 1 << 40} {
				n, d := integer.Mul(a.N, integer.Of(k)), integer.Mul(a.D, integer.Of(k))
				q, e := rational.New(n, d)
				if e != api.OK {
					t.Errorf("New(%v, %v): error %d", n, d, e)
				}
				equal(t, "k n / k d = n / d", q, a)
			}
			if rational.Sign(b) == 0 {
				continue
			}
			equal(t, "(a b) (1/b) = a", rational.Mul(rational.Mul(a, b), div(t, rat(1, 1), b)), a)
			equal(t, "(a/b + 1) b - b = a", rational.Sub(rational.Mul(rational.Add(div(t, a, b), rat(1, 1)), b), b), a)
			equal(t, "between a and a", between(t, a, a), a)
		}
	}
	for n := int64(-12); n <= 12; n++ {
		for d := int64(1); d <= 12; d++ {
			sum := rat(0, 1)
			for range d {
				sum = rational.Add(sum, rat(n, d))
			}
			equal(t, "d times n/d is n", sum, rat(n, 1))
		}
	}
}
