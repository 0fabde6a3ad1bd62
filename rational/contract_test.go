package rational_test

// P2.1: each function does what B1 to B7 say, compared with math/big and with the examples of the chapter.

import (
	"math/big"
	"strings"
	"testing"

	"algorist/api"
	"algorist/rational"
)

func TestValid(t *testing.T) {
	for _, a := range rats() {
		if !rational.Valid(a) {
			t.Errorf("%v is valid", a)
		}
	}
	one, empty := api.Int{Mag: []uint32{1}}, api.Int{Mag: []uint32{}}
	if !rational.Valid(api.Rat{N: empty, D: one}) || !rational.Valid(api.Rat{D: one}) {
		t.Error("0/1 is valid, with an empty size and with none")
	}
	word := func(neg bool, ws ...uint32) api.Int { return api.Int{Neg: neg, Mag: ws} }
	for _, a := range []api.Rat{
		{}, {N: one}, {N: word(true, 1)}, {D: word(false, 2)}, {D: word(true, 1)}, // 0/0, 1/0, -1/0, 0/2, 0/-1
		{N: one, D: word(true, 1)}, {N: word(true, 1), D: word(true, 2)}, {N: word(false, 2), D: word(false, 4)}, {N: word(true, 6), D: word(false, 4)}, {N: word(false, 3), D: word(false, 3)},
		{N: word(false, 0, 1), D: word(false, 0, 0, 1)}, {N: word(false, 0, 3), D: word(false, 6)},
		{N: word(false, 1, 0), D: one}, {N: word(true), D: one}, {N: word(true, 0), D: one}, {N: word(false, 0), D: one}, // not canonical
		{N: one, D: word(false, 1, 0)}, {N: one, D: word(false, 0)}, {N: one, D: word(true)}, {N: one, D: word(false, 2, 0, 0)}, {N: empty, D: empty},
	} {
		if rational.Valid(a) {
			t.Errorf("%v is not valid", a)
		}
	}
}

func TestNew(t *testing.T) {
	for _, x := range samples() {
		for _, y := range samples() {
			for _, d := range []*big.Int{y.Num(), y.Denom()} {
				checkNew(t, x.Num(), d)
			}
		}
	}
	for n := int64(-30); n <= 30; n++ {
		for d := int64(-30); d <= 30; d++ {
			checkNew(t, big.NewInt(n), big.NewInt(d))
		}
	}
}

func checkNew(t *testing.T, n, d *big.Int) {
	t.Helper()
	got, e := rational.New(fromBig(n), fromBig(d))
	if d.Sign() == 0 {
		if e != api.ErrZero || !isZeroValue(got) {
			t.Errorf("New(%v, 0) = %v, %d", n, got, e)
		}
		return
	}
	expect(t, got, new(big.Rat).SetFrac(n, d), "New", n, d)
	if e != api.OK {
		t.Errorf("New(%v, %v): error %d", n, d, e)
	}
}

func TestArithmetic(t *testing.T) {
	for _, x := range samples() {
		for _, y := range samples() {
			checkArithmetic(t, x, y)
		}
	}
	for _, x := range small(4) {
		for _, y := range small(4) {
			checkArithmetic(t, x, y)
		}
	}
	expect(t, rational.Add(rat(1, 2), rat(1, 3)), big.NewRat(5, 6), "1/2 + 1/3")
}

func checkArithmetic(t *testing.T, x, y *big.Rat) {
	t.Helper()
	a, b := fromRat(x), fromRat(y)
	expect(t, rational.Add(a, b), new(big.Rat).Add(x, y), x, "+", y)
	expect(t, rational.Sub(a, b), new(big.Rat).Sub(x, y), x, "-", y)
	expect(t, rational.Mul(a, b), new(big.Rat).Mul(x, y), x, "*", y)
	if got := rational.Cmp(a, b); got != x.Cmp(y) {
		t.Errorf("Cmp(%v, %v) = %d", x, y, got)
	}
	q, e := rational.Div(a, b)
	if y.Sign() == 0 {
		if e != api.ErrZero || !isZeroValue(q) {
			t.Errorf("Div(%v, 0) = %v, %d", x, q, e)
		}
		return
	}
	expect(t, q, new(big.Rat).Quo(x, y), x, "/", y)
	if e != api.OK {
		t.Errorf("Div(%v, %v): error %d", x, y, e)
	}
}

func TestSignAndFloor(t *testing.T) {
	for _, x := range append(samples(), small(6)...) {
		a := fromRat(x)
		if got := rational.Sign(a); got != x.Sign() {
			t.Errorf("Sign(%v) = %d", x, got)
		}
		want := new(big.Int).Div(x.Num(), x.Denom()) // the Euclidean quotient, rounded down since the denominator is positive
		if got := rational.Floor(a); !sameInt(got, fromBig(want)) {
			t.Errorf("Floor(%v) = %v, want %v", x, got, want)
		}
	}
	for _, c := range [][3]int64{{-1, 2, -1}, {1, 2, 0}, {0, 1, 0}, {-2, 1, -2}, {2, 1, 2}, {-7, 3, -3}, {7, 3, 2}, {-6, 7, -1}} {
		if got := rational.Floor(rat(c[0], c[1])); !sameInt(got, fromBig(big.NewInt(c[2]))) {
			t.Errorf("Floor(%d/%d) = %v", c[0], c[1], got)
		}
	}
}

func TestText(t *testing.T) {
	for _, x := range samples() {
		checkText(t, x)
	}
	for _, x := range small(5) {
		checkText(t, x)
	}
	for _, c := range []struct {
		n, d int64
		want string
	}{{-6, 4, "-3/2"}, {0, 5, "0"}, {7, 7, "1"}, {-8, 4, "-2"}, {1, 10, "1/10"}, {-1, 4294967296, "-1/4294967296"}} {
		if s, e := rational.Text(rat(c.n, c.d)); s != c.want || e != api.OK {
			t.Errorf("Text(%d/%d) = %q, %d", c.n, c.d, s, e)
		}
	}
	for n := 1299; n <= 1302; n++ { // 10^n has n + 1 digits, and is coprime to 10^n - 1, which has n
		for _, sign := range []int64{1, -1} {
			p := new(big.Int).Exp(big.NewInt(10), big.NewInt(int64(n)), nil)
			low := new(big.Int).Sub(p, big.NewInt(1))
			p, signed := p.Mul(p, big.NewInt(sign)), new(big.Int).Mul(low, big.NewInt(sign))
			checkText(t, new(big.Rat).SetInt(p))
			checkText(t, new(big.Rat).SetInt(signed))
			checkText(t, new(big.Rat).SetFrac(p, low))
			checkText(t, new(big.Rat).SetFrac(signed, new(big.Int).Abs(p)))
			checkText(t, new(big.Rat).SetFrac(big.NewInt(sign), low))
		}
	}
}

// checkText compares with the text of math/big, if neither number is too long.
func checkText(t *testing.T, x *big.Rat) {
	t.Helper()
	s, e := rational.Text(fromRat(x))
	if len(x.Num().String()) > 1300 || len(x.Denom().String()) > 1300 {
		if e != api.ErrBig || s != "" {
			t.Errorf("Text(%v) = %q, %d", x, s, e)
		}
		return
	}
	if s != x.RatString() || e != api.OK {
		t.Errorf("Text(%v) = %q, %d", x, s, e)
	}
}

func TestParse(t *testing.T) {
	nines, tens := strings.Repeat("9", 1300), "1"+strings.Repeat("0", 1299)
	for _, s := range []string{
		"0", "1", "-1", "10", "1/2", "-1/2", "3/2", "-3/2", "355/113", "-4294967297/4294967296", "18446744073709551616/3",
		nines, "-" + nines[:1299], "1/" + nines, "-1/" + nines, tens + "/" + nines, "-" + tens[:1299] + "/" + nines,
	} {
		a, e := rational.Parse(s)
		want, ok := new(big.Rat).SetString(s)
		if !ok || want.RatString() != s {
			t.Fatalf("%q is no text", s)
		}
		expect(t, a, want, "Parse", s)
		if e != api.OK {
			t.Errorf("Parse(%q): error %d", s, e)
		}
	}
}

func TestParseForm(t *testing.T) {
	long := strings.Repeat("1", 1301)
	for _, s := range []string{
		"", "-", "/", "-/", "1/", "/2", "-/2", "1/-", "//", "1//2", "1/2/", "/1/2", "1/2/3", "1/2/1",
		"1/1", "-1/1", "0/1", "7/1", "0/2", "0/0", "1/0", "-1/0", "2/4", "-6/4", "4/2", "3/3", "2/6",
		"1/-2", "-1/-2", "+1/2", "1/+2", "-0", "-0/3", "0/3", "00", "007", "01/2", "1/02", "+1",
		" 1/2", "1/2 ", "1 /2", "1/ 2", "1/2\n", "1.5", "1e3", "0x1/2", "1/0x2", "1_0/3", "1\\2", "1:2", "a", "a/b", "1/2a", "\x00", "1/2\x00", "\xff/2", "\u0663/2", "1\u20442",
		long, "-" + long[:1300], "1/" + long, long + "/2", long + "/" + long[:1299], strings.Repeat("/", 2601), strings.Repeat("0", 2601), strings.Repeat("x", 2601), strings.Repeat("1", 2601), "1/" + strings.Repeat("3", 2599),
	} {
		if a, e := rational.Parse(s); e != api.ErrForm || !isZeroValue(a) {
			t.Errorf("Parse(%q) = %v, %d", s, a, e)
		}
	}
	for _, s := range []string{
		strings.Repeat("1", 2602), "-" + strings.Repeat("1", 2601), strings.Repeat("x", 2602), strings.Repeat("/", 2602), strings.Repeat(" ", 2602), "1/2" + strings.Repeat("\x00", 2599),
		"-" + strings.Repeat("9", 1300) + "/" + strings.Repeat("8", 1300), strings.Repeat("7", 100000),
	} {
		if a, e := rational.Parse(s); e != api.ErrBig || !isZeroValue(a) {
			t.Errorf("Parse of %d bytes = %v, %d", len(s), a, e)
		}
	}
}

func TestExactly(t *testing.T) {
	for _, x := range samples() {
		expectInterval(t, rational.Exactly(fromRat(x)), x, x, "Exactly", x)
	}
}

// TestIntervals compares intervals of all signs with the examples that hands have computed.
func TestIntervals(t *testing.T) {
	of := func(a, b int64) api.Interval { return api.Interval{Lo: rat(a, 1), Hi: rat(b, 1)} }
	for _, c := range []struct{ a, b, sum, difference, product [2]int64 }{
		{[2]int64{1, 2}, [2]int64{3, 5}, [2]int64{4, 7}, [2]int64{-4, -1}, [2]int64{3, 10}},
		{[2]int64{-2, -1}, [2]int64{3, 5}, [2]int64{1, 4}, [2]int64{-7, -4}, [2]int64{-10, -3}},
		{[2]int64{-2, -1}, [2]int64{-5, -3}, [2]int64{-7, -4}, [2]int64{1, 4}, [2]int64{3, 10}},
		{[2]int64{-2, 3}, [2]int64{4, 5}, [2]int64{2, 8}, [2]int64{-7, -1}, [2]int64{-10, 15}},
		{[2]int64{-2, 3}, [2]int64{-5, -4}, [2]int64{-7, -1}, [2]int64{2, 8}, [2]int64{-15, 10}},
		{[2]int64{-2, 3}, [2]int64{-5, 4}, [2]int64{-7, 7}, [2]int64{-6, 8}, [2]int64{-15, 12}},
		{[2]int64{-3, 2}, [2]int64{-5, 4}, [2]int64{-8, 6}, [2]int64{-7, 7}, [2]int64{-12, 15}},
		{[2]int64{0, 0}, [2]int64{-5, 4}, [2]int64{-5, 4}, [2]int64{-4, 5}, [2]int64{0, 0}},
		{[2]int64{0, 2}, [2]int64{-3, 0}, [2]int64{-3, 2}, [2]int64{0, 5}, [2]int64{-6, 0}},
		{[2]int64{7, 7}, [2]int64{-2, -2}, [2]int64{5, 5}, [2]int64{9, 9}, [2]int64{-14, -14}},
	} {
		a, b := of(c.a[0], c.a[1]), of(c.b[0], c.b[1])
		for _, r := range []struct {
			got  api.Interval
			want [2]int64
		}{{rational.IAdd(a, b), c.sum}, {rational.ISub(a, b), c.difference}, {rational.IMul(a, b), c.product}} {
			expectInterval(t, r.got, big.NewRat(r.want[0], 1), big.NewRat(r.want[1], 1), c, r.want)
		}
	}
	i := api.Interval{Lo: rat(-1, 2), Hi: rat(2, 3)}
	expectInterval(t, rational.Scale(i, rat(6, 1)), big.NewRat(-3, 1), big.NewRat(4, 1), "times 6")
	expectInterval(t, rational.Scale(i, rat(-6, 1)), big.NewRat(-4, 1), big.NewRat(3, 1), "times -6")
	expectInterval(t, rational.Scale(i, rat(0, 1)), new(big.Rat), new(big.Rat), "times 0")
}

func TestMeetHasInside(t *testing.T) {
	all := append(spans(small(2)), long()...)
	for _, a := range all {
		for _, b := range all {
			checkMeet(t, a, b)
			want := a.lo.Cmp(b.lo) >= 0 && a.hi.Cmp(b.hi) <= 0
			if got := rational.Inside(a.value(), b.value()); got != want {
				t.Errorf("Inside(%v, %v) = %v", a, b, got)
			}
		}
		for _, x := range append(samples(), small(3)...) {
			want := a.lo.Cmp(x) <= 0 && x.Cmp(a.hi) <= 0
			if got := rational.Has(a.value(), fromRat(x)); got != want {
				t.Errorf("Has(%v, %v) = %v", a, x, got)
			}
		}
	}
}

func checkMeet(t *testing.T, a, b span) {
	t.Helper()
	lo, hi := a.lo, a.hi
	if b.lo.Cmp(lo) > 0 {
		lo = b.lo
	}
	if b.hi.Cmp(hi) < 0 {
		hi = b.hi
	}
	got, ok := rational.Meet(a.value(), b.value())
	if lo.Cmp(hi) > 0 {
		if ok || !sameInterval(got, api.Interval{}) {
			t.Errorf("Meet(%v, %v) = %v, %v", a, b, got, ok)
		}
		return
	}
	expectInterval(t, got, lo, hi, "Meet", a, b)
	if !ok {
		t.Errorf("Meet(%v, %v) is false", a, b)
	}
}

func TestBetween(t *testing.T) {
	for _, c := range [][6]int64{
		{1, 3, 2, 5, 1, 3}, {17, 50, 9, 25, 5, 14}, {-9, 25, -17, 50, -5, 14}, {-2, 5, -1, 3, -1, 3}, // the examples, and their opposites
		{-1, 2, 1, 3, 0, 1}, {0, 1, 5, 1, 0, 1}, {-5, 1, 0, 1, 0, 1}, {0, 1, 0, 1, 0, 1}, // 0 is there
		{1, 2, 7, 2, 1, 1}, {2, 1, 7, 2, 2, 1}, {-7, 2, -2, 1, -2, 1}, {-7, 2, -9, 4, -3, 1}, {5, 2, 4, 1, 3, 1}, {3, 1, 3, 1, 3, 1}, // integers: the one next to 0
		{5, 7, 5, 7, 5, 7}, {-5, 7, -5, 7, -5, 7}, {7, 5, 7, 5, 7, 5}, // one number
		{314, 100, 315, 100, 22, 7}, {3141, 1000, 3142, 1000, 245, 78}, {-3142, 1000, -3141, 1000, -245, 78}, {1, 100, 2, 100, 1, 50}, {101, 100, 102, 100, 51, 50}, {98, 100, 99, 100, 49, 50},
	} {
		got := between(t, rat(c[0], c[1]), rat(c[2], c[3]))
		expect(t, got, big.NewRat(c[4], c[5]), c)
	}
	for _, x := range samples() {
		for _, y := range samples() {
			if x.Cmp(y) <= 0 {
				continue
			}
			if q, e := rational.Between(fromRat(x), fromRat(y)); e != api.ErrArg || !isZeroValue(q) {
				t.Errorf("Between(%v, %v) = %v, %d", x, y, q, e)
			}
		}
	}
}
