package integer_test

// P1.1: each function does what A1 to A10 say, compared with math/big and with the examples of the chapter.

import (
	"math"
	"math/big"
	"strings"
	"testing"

	"algorist/api"
	"algorist/integer"
)

func TestValid(t *testing.T) {
	for _, a := range ints() {
		if !integer.Valid(a) {
			t.Errorf("%v is canonical", a)
		}
	}
	if !integer.Valid(api.Int{Mag: []uint32{}}) || !integer.Valid(api.Int{Mag: []uint32{0, 1}}) {
		t.Error("an empty size is 0, and zeros before the last word are right")
	}
	for _, a := range []api.Int{
		{Neg: true}, {Neg: true, Mag: []uint32{}}, {Mag: []uint32{0}}, {Neg: true, Mag: []uint32{0}},
		{Mag: []uint32{1, 0}}, {Neg: true, Mag: []uint32{1, 2, 0}}, {Mag: []uint32{0, 0, 0}},
	} {
		if integer.Valid(a) {
			t.Errorf("%v is not canonical", a)
		}
	}
}

func TestOfAndLow(t *testing.T) {
	for _, n := range []int64{0, 1, -1, 7, -7, 1<<31 - 1, 1 << 31, -1 << 31, 1<<32 - 1, 1 << 32, -1 << 32, 1<<32 + 1, math.MaxInt64, math.MinInt64, math.MinInt64 + 1} {
		expect(t, integer.Of(n), big.NewInt(n), "Of", n)
		if got, ok := integer.Low(integer.Of(n)); got != n || !ok {
			t.Errorf("Low(Of(%d)) = %d, %v", n, got, ok)
		}
	}
	for _, z := range samples() {
		n, ok := integer.Low(fromBig(z))
		if ok != z.IsInt64() || ok && n != z.Int64() || !ok && n != 0 {
			t.Errorf("Low(%v) = %d, %v", z, n, ok)
		}
	}
	for _, s := range []string{"9223372036854775808", "-9223372036854775809", "18446744073709551615", "-18446744073709551616", "79228162514264337593543950336"} {
		if n, ok := integer.Low(fromBig(number(t, s))); n != 0 || ok {
			t.Errorf("Low(%s) = %d, %v", s, n, ok)
		}
	}
}

func TestSigns(t *testing.T) {
	for _, z := range samples() {
		a := fromBig(z)
		expect(t, integer.Neg(a), new(big.Int).Neg(z), "Neg", z)
		expect(t, integer.Abs(a), new(big.Int).Abs(z), "Abs", z)
		if got := integer.Sign(a); got != z.Sign() {
			t.Errorf("Sign(%v) = %d", z, got)
		}
		if got := integer.Bits(a); got != z.BitLen() {
			t.Errorf("Bits(%v) = %d", z, got)
		}
		for _, y := range samples() {
			if got := integer.Cmp(a, fromBig(y)); got != z.Cmp(y) {
				t.Errorf("Cmp(%v, %v) = %d", z, y, got)
			}
		}
	}
}

func TestSumsAndProducts(t *testing.T) {
	for _, x := range samples() {
		for _, y := range samples() {
			a, b := fromBig(x), fromBig(y)
			expect(t, integer.Add(a, b), new(big.Int).Add(x, y), x, "+", y)
			expect(t, integer.Sub(a, b), new(big.Int).Sub(x, y), x, "-", y)
			expect(t, integer.Mul(a, b), new(big.Int).Mul(x, y), x, "*", y)
		}
	}
}

func TestDivMod(t *testing.T) {
	for _, x := range samples() {
		for _, y := range samples() {
			checkDivMod(t, x, y)
		}
	}
	// numbers for which a word of the quotient is guessed too great, once or twice, or even after a correction
	for _, c := range [][2]string{
		{"39614081257132168796771975168", "39614081247908796759917199361"},
		{"39614081257132168801066942463", "39614081257132168796771975169"},
		{"170141183420855150465331762880109871103", "39614081257132168796771975167"},
		{"340282366920938463463374607431768211455", "79228162514264337589248983039"},
	} {
		x, y := number(t, c[0]), number(t, c[1])
		checkDivMod(t, x, y)
		for k := uint(1); k < 64; k += 7 {
			checkDivMod(t, new(big.Int).Rsh(x, k), new(big.Int).Rsh(y, k))
			checkDivMod(t, new(big.Int).Lsh(x, k), y)
		}
	}
}

// checkDivMod compares with the Euclidean division of math/big.
func checkDivMod(t *testing.T, x, y *big.Int) {
	t.Helper()
	q, r, e := integer.DivMod(fromBig(x), fromBig(y))
	if y.Sign() == 0 {
		if e != api.ErrZero || !isZero(q) || !isZero(r) {
			t.Errorf("DivMod(%v, 0) = %v, %v, %d", x, q, r, e)
		}
		return
	}
	wantQ, wantR := new(big.Int).DivMod(x, y, new(big.Int))
	expect(t, q, wantQ, x, "/", y)
	expect(t, r, wantR, x, "mod", y)
	if e != api.OK {
		t.Errorf("DivMod(%v, %v): error %d", x, y, e)
	}
}

func TestDivModSigns(t *testing.T) {
	for _, c := range [][4]int64{
		{7, 3, 2, 1}, {-7, 3, -3, 2}, {7, -3, -2, 1}, {-7, -3, 3, 2}, {6, 3, 2, 0}, {-6, 3, -2, 0}, {6, -3, -2, 0}, {-6, -3, 2, 0},
		{2, 3, 0, 2}, {-2, 3, -1, 1}, {-2, -3, 1, 1}, {0, 5, 0, 0}, {0, -5, 0, 0}, {math.MinInt64, -1, 0, 0},
	} {
		q, r := divMod(t, integer.Of(c[0]), integer.Of(c[1]))
		want := big.NewInt(c[2])
		if c[0] == math.MinInt64 {
			want = power(63, 0)
		}
		expect(t, q, want, c)
		expect(t, r, big.NewInt(c[3]), c)
	}
}

func TestGcd(t *testing.T) {
	for _, x := range samples() {
		for _, y := range samples() {
			want := new(big.Int).GCD(nil, nil, new(big.Int).Abs(x), new(big.Int).Abs(y))
			expect(t, integer.Gcd(fromBig(x), fromBig(y)), want, "Gcd", x, y)
		}
	}
	expect(t, integer.Gcd(integer.Of(-12), integer.Of(18)), big.NewInt(6), "Gcd(-12, 18)")
	expect(t, integer.Gcd(integer.Of(0), integer.Of(-4)), big.NewInt(4), "Gcd(0, -4)")
	expect(t, integer.Gcd(integer.Of(0), integer.Of(0)), new(big.Int), "Gcd(0, 0)")
}

func TestBezout(t *testing.T) {
	for _, x := range samples() {
		for _, y := range samples() {
			checkBezout(t, x, y)
		}
	}
	for _, c := range [][5]int64{
		{12, 18, 6, 2, -1}, {5, 0, 5, 1, 0}, {-5, 0, 5, -1, 0}, {0, -4, 4, 0, -1}, {0, 4, 4, 0, 1}, {0, 0, 0, 0, 0},
		{3, 7, 1, 5, -2}, {3, -7, 1, 5, 2}, {-3, 7, 1, 2, 1}, {-3, -7, 1, 2, -1}, {4, 2, 2, 0, 1}, {4, -2, 2, 0, -1}, {1, 1, 1, 0, 1}, {2, 6, 2, 1, 0}, {-2, 6, 2, 2, 1},
	} {
		g, u, v := integer.Bezout(integer.Of(c[0]), integer.Of(c[1]))
		expect(t, g, big.NewInt(c[2]), c)
		expect(t, u, big.NewInt(c[3]), c)
		expect(t, v, big.NewInt(c[4]), c)
	}
}

// checkBezout checks the conditions of A7, which leave only one result.
func checkBezout(t *testing.T, x, y *big.Int) {
	t.Helper()
	g, u, v := integer.Bezout(fromBig(x), fromBig(y))
	want := new(big.Int).GCD(nil, nil, new(big.Int).Abs(x), new(big.Int).Abs(y))
	expect(t, g, want, "Bezout", x, y)
	if !canonical(u) || !canonical(v) {
		t.Errorf("Bezout(%v, %v): %v or %v is not canonical", x, y, u, v)
	}
	sum := new(big.Int).Mul(toBig(u), x)
	sum.Add(sum, new(big.Int).Mul(toBig(v), y))
	if sum.Cmp(want) != 0 {
		t.Errorf("Bezout(%v, %v) = %v, %v, %v: the sum is %v", x, y, g, u, v, sum)
	}
	if y.Sign() == 0 {
		expect(t, u, big.NewInt(int64(x.Sign())), "u", x, y)
		expect(t, v, new(big.Int), "v", x, y)
		return
	}
	bound := new(big.Int).Quo(new(big.Int).Abs(y), want)
	if z := toBig(u); z.Sign() < 0 || z.Cmp(bound) >= 0 {
		t.Errorf("Bezout(%v, %v): u = %v is not in the range 0 to %v - 1", x, y, z, bound)
	}
}

func TestSqrt(t *testing.T) {
	for _, z := range samples() {
		s, r, e := integer.Sqrt(fromBig(z))
		if z.Sign() < 0 {
			if e != api.ErrArg || !isZero(s) || !isZero(r) {
				t.Errorf("Sqrt(%v) = %v, %v, %d", z, s, r, e)
			}
			continue
		}
		want := new(big.Int).Sqrt(z)
		expect(t, s, want, "Sqrt", z)
		expect(t, r, new(big.Int).Sub(z, want.Mul(want, want)), "rest of", z)
		if e != api.OK {
			t.Errorf("Sqrt(%v): error %d", z, e)
		}
	}
	for n := int64(0); n < 2000; n++ {
		s, r, e := integer.Sqrt(integer.Of(n))
		want := int64(math.Sqrt(float64(n)))
		expect(t, s, big.NewInt(want), "Sqrt", n)
		expect(t, r, big.NewInt(n-want*want), "rest of", n)
		if e != api.OK {
			t.Errorf("Sqrt(%d): error %d", n, e)
		}
	}
}

func TestRoot(t *testing.T) {
	for _, c := range []struct {
		a    int64
		k    int
		want int64
	}{
		{0, 1, 0}, {0, 2, 0}, {0, math.MaxInt, 0}, {1, 1, 1}, {1, 7, 1}, {1, math.MaxInt, 1}, {math.MaxInt64, math.MaxInt, 1},
		{1000, 3, 10}, {999, 3, 9}, {1001, 3, 10}, {math.MaxInt64, 1, math.MaxInt64}, {math.MaxInt64, 62, 2}, {math.MaxInt64, 63, 1},
		{1 << 62, 62, 2}, {1<<62 - 1, 62, 1}, {1 << 62, 31, 4}, {1<<62 - 1, 31, 3}, {2, 2, 1}, {3, 2, 1}, {4, 2, 2}, {8, 3, 2}, {7, 3, 1}, {9, 2, 3}, {26, 3, 2}, {27, 3, 3},
	} {
		s, e := integer.Root(integer.Of(c.a), c.k)
		expect(t, s, big.NewInt(c.want), "Root", c)
		if e != api.OK {
			t.Errorf("Root(%d, %d): error %d", c.a, c.k, e)
		}
	}
	for _, z := range samples() {
		for _, k := range []int{1, 2, 3, 4, 5, 7, 10, 31, 32, 33, 64, 100, 1000, 4095, 4096, 4097, 5000} {
			checkRoot(t, z, k)
		}
	}
	for _, a := range []int64{0, 1, 8, -1, -8} {
		for _, k := range []int{0, -1, -3, math.MinInt} {
			if s, e := integer.Root(integer.Of(a), k); e != api.ErrArg || !isZero(s) {
				t.Errorf("Root(%d, %d) = %v, %d", a, k, s, e)
			}
		}
	}
}

// checkRoot checks that s^k is at most z, and that (s + 1)^k is greater.
func checkRoot(t *testing.T, z *big.Int, k int) {
	t.Helper()
	a, e := integer.Root(fromBig(z), k)
	if z.Sign() < 0 {
		if e != api.ErrArg || !isZero(a) {
			t.Errorf("Root(%v, %d) = %v, %d", z, k, a, e)
		}
		return
	}
	s, n := toBig(a), big.NewInt(int64(k))
	if e != api.OK || !canonical(a) || s.Sign() < 0 || new(big.Int).Exp(s, n, nil).Cmp(z) > 0 {
		t.Errorf("Root(%v, %d) = %v, %d", z, k, s, e)
		return
	}
	if s.Add(s, big.NewInt(1)).Exp(s, n, nil).Cmp(z) <= 0 {
		t.Errorf("Root(%v, %d) is too small", z, k)
	}
}

func TestPow(t *testing.T) {
	for _, z := range samples() {
		for _, n := range []int{0, 1, 2, 3, 4, 5, 8, 13, 31, 63, 64, 127, 2048, 4095, 4096} {
			checkPow(t, z, n)
		}
		for _, n := range []int{-1, -2, 4097, 5000, math.MaxInt, math.MinInt} {
			if p, e := integer.Pow(fromBig(z), n); e != api.ErrArg || !isZero(p) {
				t.Errorf("Pow(%v, %d) = %v, %d", z, n, p, e)
			}
		}
	}
	for _, n := range []int{2583, 2584, 2585, 2586} {
		checkPow(t, big.NewInt(3), n)
		checkPow(t, big.NewInt(-3), n)
	}
	checkPow(t, power(100000, 1), 4096)
	checkPow(t, power(100000, 1), 0)
	checkPow(t, power(2048, -1), 2)
	checkPow(t, power(2048, 0), 2)
	expect(t, first(integer.Pow(integer.Of(-2), 3)), big.NewInt(-8), "Pow(-2, 3)")
	expect(t, first(integer.Pow(integer.Of(0), 0)), big.NewInt(1), "Pow(0, 0)")
}

func first(a api.Int, _ api.Errno) api.Int { return a }

// checkPow compares with the power of math/big, if the sizes let it be computed.
func checkPow(t *testing.T, z *big.Int, n int) {
	t.Helper()
	p, e := integer.Pow(fromBig(z), n)
	want := new(big.Int)
	tooBig := n > 0 && (z.BitLen()-1)*n >= api.MaxBits
	if !tooBig {
		want.Exp(z, big.NewInt(int64(n)), nil)
		tooBig = want.BitLen() > api.MaxBits
	}
	if tooBig {
		if e != api.ErrBig || !isZero(p) {
			t.Errorf("Pow(%v, %d) = %v, %d", z, n, p, e)
		}
		return
	}
	expect(t, p, want, "Pow", z, n)
	if e != api.OK {
		t.Errorf("Pow(%v, %d): error %d", z, n, e)
	}
}

func TestText(t *testing.T) {
	for _, z := range samples() {
		checkText(t, z)
	}
	for _, s := range []string{
		"0", "9", "10", "-10", "4294967296", "-4294967296", "1000000000", "999999999", "1000000001", "1000000000000000000", "-100000000000000000000000000000000000001",
		strings.Repeat("9", 1299), strings.Repeat("9", 1300), strings.Repeat("9", 1301), strings.Repeat("9", 1310),
		"-" + strings.Repeat("9", 1299), "-" + strings.Repeat("9", 1300), "-1" + strings.Repeat("0", 1299),
		"1" + strings.Repeat("0", 1299), "1" + strings.Repeat("0", 1300), "-1" + strings.Repeat("0", 1298),
	} {
		checkText(t, number(t, s))
	}
	checkText(t, power(100000, 0))
}

// checkText compares with the text of math/big.
func checkText(t *testing.T, z *big.Int) {
	t.Helper()
	s, e := integer.Text(fromBig(z))
	want := z.String()
	if len(want) > 1300 {
		if e != api.ErrBig || s != "" {
			t.Errorf("a text of %d bytes: %q, %d", len(want), s, e)
		}
		return
	}
	if s != want || e != api.OK {
		t.Errorf("Text(%v) = %q, %d", z, s, e)
	}
}

func TestParse(t *testing.T) {
	for _, z := range samples() {
		if s := z.String(); len(s) <= 1300 {
			a, e := integer.Parse(s)
			expect(t, a, z, "Parse", s)
			if e != api.OK {
				t.Errorf("Parse(%q): error %d", s, e)
			}
		}
	}
	for _, s := range []string{
		"", "-", "--", "+", "-0", "00", "-00", "007", "-07", "+1", "+0", "--1", "-+1", "1-", "1+", " 1", "1 ", "- 1", "1\n", "\t1", "1_000", "1,000", "1.0", "1e3",
		"0x10", "0b1", "a", "1a", "a1", "12/3", ":", "/", "1:", "1/", "\x00", "1\x00", "\xff", "1\xff", "\u0663", "1\uff11", "\u22121", "1\u0131", "\U0001d7ce",
		strings.Repeat("0", 1300), strings.Repeat("x", 1300), "-" + strings.Repeat("0", 1299), strings.Repeat("1", 1299) + "x", strings.Repeat("\u0663", 650),
	} {
		if a, e := integer.Parse(s); e != api.ErrForm || !isZero(a) {
			t.Errorf("Parse(%q) = %v, %d", s, a, e)
		}
	}
	for _, s := range []string{
		strings.Repeat("1", 1301), "-" + strings.Repeat("1", 1300), strings.Repeat("0", 1301), strings.Repeat("x", 1301), strings.Repeat("\u0663", 651), strings.Repeat("1", 100000),
	} {
		if a, e := integer.Parse(s); e != api.ErrBig || !isZero(a) {
			t.Errorf("Parse of %d bytes = %v, %d", len(s), a, e)
		}
	}
	for _, s := range []string{strings.Repeat("9", 1300), "-" + strings.Repeat("9", 1299)} {
		a, e := integer.Parse(s)
		expect(t, a, number(t, s), "Parse", s)
		if e != api.OK {
			t.Errorf("Parse(%q): error %d", s, e)
		}
	}
}
