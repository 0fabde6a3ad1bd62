package integer_test

import (
	"math/rand"
	"strconv"
	"testing"

	"algorist/api"
	"algorist/integer"
)

// equal checks that two ways of computing a number lead to the same value.
func equal(t *testing.T, law string, a, b api.Int) {
	t.Helper()
	if !same(a, b) || !canonical(a) || !canonical(b) {
		t.Errorf("%s: %v, %v", law, a, b)
	}
}

// P1.2: the integers are a commutative, ordered ring.
func TestRing(t *testing.T) {
	zero, one := integer.Of(0), integer.Of(1)
	for _, a := range few() {
		equal(t, "a + 0 = a", integer.Add(a, zero), a)
		equal(t, "a 1 = a", integer.Mul(a, one), a)
		equal(t, "a 0 = 0", integer.Mul(a, zero), zero)
		equal(t, "a + -a = 0", integer.Add(a, integer.Neg(a)), zero)
		equal(t, "a - a = 0", integer.Sub(a, a), zero)
		equal(t, "--a = a", integer.Neg(integer.Neg(a)), a)
		for _, b := range few() {
			equal(t, "a + b = b + a", integer.Add(a, b), integer.Add(b, a))
			equal(t, "a b = b a", integer.Mul(a, b), integer.Mul(b, a))
			equal(t, "a - b = a + -b", integer.Sub(a, b), integer.Add(a, integer.Neg(b)))
			equal(t, "(a - b) + b = a", integer.Add(integer.Sub(a, b), b), a)
			equal(t, "|a b| = |a| |b|", integer.Abs(integer.Mul(a, b)), integer.Mul(integer.Abs(a), integer.Abs(b)))
			if integer.Sign(integer.Mul(a, b)) != integer.Sign(a)*integer.Sign(b) {
				t.Errorf("the sign of %v times %v", a, b)
			}
			if c := integer.Cmp(a, b); c != -integer.Cmp(b, a) || c != integer.Sign(integer.Sub(a, b)) || (c == 0) != same(a, b) {
				t.Errorf("the order of %v and %v", a, b)
			}
			ringOfThree(t, a, b)
		}
	}
}

func ringOfThree(t *testing.T, a, b api.Int) {
	t.Helper()
	for _, c := range few() {
		equal(t, "(a + b) + c = a + (b + c)", integer.Add(integer.Add(a, b), c), integer.Add(a, integer.Add(b, c)))
		equal(t, "(a b) c = a (b c)", integer.Mul(integer.Mul(a, b), c), integer.Mul(a, integer.Mul(b, c)))
		equal(t, "a (b + c) = a b + a c", integer.Mul(a, integer.Add(b, c)), integer.Add(integer.Mul(a, b), integer.Mul(a, c)))
		ab := integer.Cmp(a, b)
		if integer.Cmp(integer.Add(a, c), integer.Add(b, c)) != ab {
			t.Errorf("the order of %v and %v, after %v is added", a, b, c)
		}
		if integer.Cmp(integer.Mul(a, c), integer.Mul(b, c)) != ab*integer.Sign(c) {
			t.Errorf("the order of %v and %v, times %v", a, b, c)
		}
		if bc := integer.Cmp(b, c); ab == bc && integer.Cmp(a, c) != ab {
			t.Errorf("the order of %v, %v and %v", a, b, c)
		}
	}
}

// P1.3: quotient and remainder are determined, and compatible with sums and products.
func TestDivision(t *testing.T) {
	for _, a := range ints() {
		for _, b := range ints() {
			if integer.Sign(b) == 0 {
				continue
			}
			q, r := divMod(t, a, b)
			equal(t, "a = q b + r", integer.Add(integer.Mul(q, b), r), a)
			if integer.Sign(r) < 0 || integer.Cmp(r, integer.Abs(b)) >= 0 {
				t.Errorf("the remainder of %v by %v is %v", a, b, r)
			}
			q, r = divMod(t, integer.Mul(a, b), b)
			equal(t, "a b / b = a", q, a)
			equal(t, "a b mod b = 0", r, integer.Of(0))
		}
	}
	for _, m := range few() {
		if integer.Sign(m) == 0 {
			continue
		}
		for _, a := range few() {
			for _, b := range few() {
				checkResidues(t, a, b, m)
			}
		}
	}
}

// checkResidues checks that a sum and a product have the residues of the sum and the product of residues, and that a + b m has the quotient of a and b more.
func checkResidues(t *testing.T, a, b, m api.Int) {
	t.Helper()
	mod := func(a api.Int) api.Int {
		_, r := divMod(t, a, m)
		return r
	}
	equal(t, "residue of a sum", mod(integer.Add(a, b)), mod(integer.Add(mod(a), mod(b))))
	equal(t, "residue of a difference", mod(integer.Sub(a, b)), mod(integer.Sub(mod(a), mod(b))))
	equal(t, "residue of a product", mod(integer.Mul(a, b)), mod(integer.Mul(mod(a), mod(b))))
	q, r := divMod(t, a, m)
	qq, rr := divMod(t, integer.Add(a, integer.Mul(b, m)), m)
	equal(t, "quotient of a + b m", qq, integer.Add(q, b))
	equal(t, "remainder of a + b m", rr, r)
}

// P1.4: the greatest common divisor divides both numbers, and is a multiple of each common divisor.
func TestDivisors(t *testing.T) {
	divides := func(d, a api.Int) bool {
		if integer.Sign(d) == 0 {
			return integer.Sign(a) == 0
		}
		_, r := divMod(t, a, d)
		return integer.Sign(r) == 0
	}
	for _, a := range few() {
		for _, b := range few() {
			for _, c := range few() {
				ac, bc := integer.Mul(a, c), integer.Mul(b, c)
				g := integer.Gcd(ac, bc)
				if integer.Sign(g) < 0 || !divides(g, ac) || !divides(g, bc) || !divides(c, g) {
					t.Errorf("Gcd(%v, %v) = %v", ac, bc, g)
				}
				equal(t, "Gcd(a c, b c) = Gcd(a, b) |c|", g, integer.Mul(integer.Gcd(a, b), integer.Abs(c)))
				equal(t, "Gcd(a, b) = Gcd(b, a)", g, integer.Gcd(bc, ac))
				h, u, v := integer.Bezout(ac, bc)
				equal(t, "Gcd and Bezout", h, g)
				equal(t, "u a + v b = g", integer.Add(integer.Mul(u, ac), integer.Mul(v, bc)), g)
			}
		}
	}
}

// P1.5: roots are rounded down; the root of a power is its base; powers multiply if exponents add up.
func TestRootsAndPowers(t *testing.T) {
	for _, a := range few() {
		for _, k := range []int{1, 2, 3, 5, 8, 17, 60} {
			p, e := integer.Pow(integer.Abs(a), k)
			if e != api.OK {
				continue
			}
			rootIs(t, p, k, integer.Abs(a))
			rootIs(t, integer.Add(p, integer.Of(1)), k, rootAbove(integer.Abs(a), k))
			if integer.Sign(a) != 0 {
				rootIs(t, integer.Sub(p, integer.Of(1)), k, integer.Sub(integer.Abs(a), integer.Of(1)))
			}
		}
		for m := 0; m <= 40; m += 3 {
			for n := 0; n <= 40; n += 4 {
				powersAdd(t, a, m, n)
			}
		}
	}
}

// rootAbove returns the k-th root of a^k + 1, rounded down.
func rootAbove(a api.Int, k int) api.Int {
	if k == 1 || integer.Sign(a) == 0 {
		return integer.Add(a, integer.Of(1))
	}
	return a
}

func rootIs(t *testing.T, a api.Int, k int, want api.Int) {
	t.Helper()
	s, e := integer.Root(a, k)
	if e != api.OK || !same(s, want) {
		t.Errorf("Root(%v, %d) = %v, %d", a, k, s, e)
	}
	if k == 2 {
		s, r, e := integer.Sqrt(a)
		if e != api.OK || !same(s, want) || !same(r, integer.Sub(a, integer.Mul(want, want))) {
			t.Errorf("Sqrt(%v) = %v, %v, %d", a, s, r, e)
		}
	}
}

func powersAdd(t *testing.T, a api.Int, m, n int) {
	t.Helper()
	p, e := integer.Pow(a, m)
	q, f := integer.Pow(a, n)
	r, g := integer.Pow(a, m+n)
	if g != api.OK {
		return
	}
	if e != api.OK || f != api.OK {
		t.Errorf("%v has a power %d, but none of %d or %d", a, m+n, m, n)
	}
	equal(t, "a^m a^n = a^(m + n)", integer.Mul(p, q), r)
}

// P1.6: Text and Parse are inverse to each other.
func TestTextsAreInverse(t *testing.T) {
	for _, a := range ints() {
		s, e := integer.Text(a)
		if e != api.OK {
			continue
		}
		b, f := integer.Parse(s)
		if f != api.OK {
			t.Errorf("Parse(%q): error %d", s, f)
		}
		equal(t, "Parse(Text(a)) = a", b, a)
	}
	short := []string{""}
	for i := 0; len(short[i]) < 4; i++ {
		for _, c := range "-+0129x" {
			short = append(short, short[i]+string(c))
		}
	}
	for _, s := range short {
		checkShortText(t, s)
	}
	r := rand.New(rand.NewSource(2))
	for length := 1; length <= 1300; length += 37 {
		digits := []byte{byte('1' + r.Intn(9))}
		for len(digits) < length {
			digits = append(digits, byte('0'+r.Intn(10)))
		}
		a, e := integer.Parse(string(digits))
		s, f := integer.Text(a)
		if e != api.OK || f != api.OK || s != string(digits) {
			t.Errorf("Text(Parse(%q)) = %q, %d, %d", digits, s, e, f)
		}
	}
}

// checkShortText checks that a short text is read if and only if it is the text of the number of the machine that it stands for.
func checkShortText(t *testing.T, s string) {
	t.Helper()
	n, err := strconv.ParseInt(s, 10, 64)
	right := err == nil && strconv.FormatInt(n, 10) == s
	a, e := integer.Parse(s)
	if !right {
		if e != api.ErrForm || !isZero(a) {
			t.Errorf("Parse(%q) = %v, %d", s, a, e)
		}
		return
	}
	equal(t, "Parse", a, integer.Of(n))
	if back, f := integer.Text(a); e != api.OK || f != api.OK || back != s {
		t.Errorf("Text(Parse(%q)) = %q, %d, %d", s, back, e, f)
	}
}

// P1.7: for small numbers, the operations are those of the machine.
func TestSmallNumbers(t *testing.T) {
	const most = 60
	for m := int64(-most); m <= most; m++ {
		for n := int64(-most); n <= most; n++ {
			a, b := integer.Of(m), integer.Of(n)
			isNumber(t, integer.Add(a, b), m+n)
			isNumber(t, integer.Sub(a, b), m-n)
			isNumber(t, integer.Mul(a, b), m*n)
			compareIs(t, a, b, m, n)
			if n != 0 {
				q, r := divMod(t, a, b)
				isNumber(t, r, ((m%n)+abs(n))%abs(n))
				isNumber(t, q, (m-((m%n)+abs(n))%abs(n))/n)
			}
			isNumber(t, integer.Gcd(a, b), gcd(abs(m), abs(n)))
		}
		isNumber(t, integer.Neg(integer.Of(m)), -m)
		isNumber(t, integer.Abs(integer.Of(m)), abs(m))
		if s, e := integer.Text(integer.Of(m)); e != api.OK || s != strconv.FormatInt(m, 10) {
			t.Errorf("Text(%d) = %q, %d", m, s, e)
		}
		p := int64(1)
		for k := 0; k <= 10; k++ {
			isNumber(t, first(integer.Pow(integer.Of(m), k)), p)
			p *= m
		}
	}
}

func isNumber(t *testing.T, a api.Int, want int64) {
	t.Helper()
	if n, ok := integer.Low(a); !ok || n != want || !canonical(a) {
		t.Errorf("got %v, want %d", a, want)
	}
}

func compareIs(t *testing.T, a, b api.Int, m, n int64) {
	t.Helper()
	want := 0
	if m < n {
		want = -1
	} else if m > n {
		want = 1
	}
	if got := integer.Cmp(a, b); got != want {
		t.Errorf("Cmp(%d, %d) = %d", m, n, got)
	}
}

func abs(n int64) int64 { return max(n, -n) }

func gcd(m, n int64) int64 {
	for n > 0 {
		m, n = n, m%n
	}
	return m
}
