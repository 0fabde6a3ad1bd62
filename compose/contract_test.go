package compose_test

// P9.1: each function does what I1 to I5 say, compared with the definitions, and with the examples of the chapter.

import (
	"math"
	"math/big"
	"math/rand"
	"slices"
	"testing"

	"algorist/api"
	"algorist/compose"
)

func checkCompose(t *testing.T, f, g, want api.Form) {
	t.Helper()
	h, e := compose.Compose(f, g)
	isResult(t, h, e, want, api.OK, "Compose", show(f), show(g))
}

// defined returns the reduced forms of all forms that the congruences of the definition allow; the coefficients are small.
func defined(f, g api.Form) []api.Form {
	small := func(a api.Int) int64 { return toBig(a).Int64() }
	a1, b1, a2, b2, d := small(f.A), small(f.B), small(g.A), small(g.B), discriminant(f).Int64()
	e := gcd(gcd(big.NewInt(a1), big.NewInt(a2)), big.NewInt((b1+b2)/2)).Int64()
	a := a1 * a2 / (e * e)
	var fs []api.Form
	for b := int64(0); b < 2*a; b++ { // greater numbers b lead to forms that are equivalent to these
		if (b-b1)%(2*a1/e) == 0 && (b-b2)%(2*a2/e) == 0 && (b*b-d)%(4*a) == 0 {
			fs = append(fs, reduced(form(a, b, (b*b-d)/(4*a))))
		}
	}
	return fs
}

// checkDefined compares Compose with the definition. Its congruences may allow several classes, if e is not coprime to what is left of a1 and a2; then the product is the one that depends on the classes only, and so is that of other forms of these classes, for which e is 1.
// It reports whether there are several classes.
func checkDefined(t *testing.T, f, g api.Form) bool {
	t.Helper()
	want, fs := product(f, g), defined(f, g)
	if !slices.ContainsFunc(fs, func(h api.Form) bool { return sameForm(h, want) }) {
		t.Errorf("the product of %s and %s is not %s", show(f), show(g), show(want))
	}
	checkCompose(t, f, g, want)
	return slices.ContainsFunc(fs, func(h api.Form) bool { return !sameForm(h, want) })
}

// Forms that need not be reduced, with all kinds of divisors in common.
func TestComposeByDefinition(t *testing.T) {
	common, several := 0, 0
	for _, d := range discriminants(-100) {
		fs := forms(d, 18)
		for _, f := range fs {
			for _, g := range fs {
				if checkDefined(t, f, g) {
					several++
				}
				if !isOne(gcd(toBig(f.A), toBig(g.A))) {
					common++
				}
			}
		}
	}
	if common < 6000 || several < 100 || several > common/10 {
		t.Errorf("%d pairs have a common divisor, and %d several classes", common, several)
	}
}

func TestComposeReduced(t *testing.T) {
	for _, d := range discriminants(-700) {
		fs := classes(d)
		for _, f := range fs {
			for _, g := range fs {
				checkDefined(t, f, g)
			}
		}
	}
}

// For the square of (4, 2, 5), the congruences allow b = 2 and b = 6, which are those of different classes; but only one of the two is a product that depends on the classes.
func TestComposeSeveral(t *testing.T) {
	f, g := form(4, 2, 5), form(4, -2, 5)
	if !checkDefined(t, f, f) || checkDefined(t, f, form(5, -2, 4)) {
		t.Error("the classes that the congruences allow")
	}
	checkCompose(t, f, f, g)
	checkCompose(t, form(5, -2, 4), f, g)
	checkCompose(t, g, g, f)
	checkCompose(t, f, g, form(1, 0, 19))
}

// Forms with B of any size.
func TestComposeBoxed(t *testing.T) {
	r := rand.New(rand.NewSource(1))
	boxed(6, func(f api.Form) {
		if errorOf(f) != api.OK {
			return
		}
		for _, g := range []api.Form{f, inverse(f), {A: f.C, B: f.B, C: f.A}, moved(r, f, 1, 3), moved(r, f, 2, 1)} {
			checkDefined(t, f, g)
			checkDefined(t, g, f)
		}
	})
}

func TestComposeLong(t *testing.T) {
	r := rand.New(rand.NewSource(2))
	for _, words := range []int{1, 1, 1, 1, 2, 2, 3, 7} {
		fs := related(r, words)
		for _, f := range fs {
			for range 5 {
				g := fs[r.Intn(len(fs))]
				want := product(f, g)
				checkCompose(t, f, g, want)
				checkCompose(t, reduced(f), reduced(g), want)
				checkCompose(t, moved(r, f, 3, 10), moved(r, g, 4, 40), want)
			}
		}
	}
	f := doubling(4200) // with a power of 2 whose A is long
	g := bigForm(near(1999, 0), big.NewInt(1), near(4200-1999, 0))
	checkCompose(t, g, f, bigForm(near(2000, 0), big.NewInt(1), near(4200-2000, 0)))
	checkCompose(t, g, g, bigForm(near(4200-3998, 0), big.NewInt(-1), near(3998, 0)))
}

// The error of f comes first, then that of g, then that of different discriminants.
func TestComposeErrors(t *testing.T) {
	right := []api.Form{form(2, 1, 3), form(1, 1, 6), form(3, 1, 2), form(1, 0, 1), form(1, 0, 5), form(1, 0, 6)}
	for _, f := range append(unsuitable(), right...) {
		for _, g := range append(unsuitable(), right...) {
			want := errorOf(f)
			if want == api.OK {
				want = errorOf(g)
			}
			if want == api.OK && discriminant(f).Cmp(discriminant(g)) != 0 {
				want = api.ErrDisc
			}
			h, e := compose.Compose(f, g)
			if want != api.OK {
				isResult(t, h, e, api.Form{}, want, "Compose", show(f), show(g))
			} else {
				isResult(t, h, e, product(f, g), api.OK, "Compose", show(f), show(g))
			}
		}
	}
}

// All functions return the error of each form.
func TestErrorsOfForms(t *testing.T) {
	seen := map[api.Errno]int{}
	check := func(f api.Form) {
		want := errorOf(f)
		seen[want]++
		if want == api.OK {
			return
		}
		right := form(2, 1, 3)
		g, e := compose.Compose(f, f)
		isResult(t, g, e, api.Form{}, want, "Compose", show(f), show(f))
		g, e = compose.Compose(right, f)
		isResult(t, g, e, api.Form{}, want, "Compose", show(right), show(f))
		for _, n := range []int64{-1, 0, 1, 2} {
			g, e = compose.Power(f, num(n))
			isResult(t, g, e, api.Form{}, want, "Power", show(f), n)
		}
		for _, h := range []int{-1, 0, 1, 2} {
			if n, e := compose.Order(f, h); n != 0 || e != want {
				t.Errorf("Order(%s, %d) is %d, %d", show(f), h, n, e)
			}
		}
		for _, l := range [][]api.Form{nil, {f}, {right}, make([]api.Form, 401)} {
			if fs, e := compose.Roots(f, l); len(fs) != 0 || e != want {
				t.Errorf("Roots(%s) has %d forms, error %d", show(f), len(fs), e)
			}
		}
	}
	boxed(5, check)
	for _, f := range unsuitable() {
		check(f)
	}
	for _, e := range []api.Errno{api.OK, api.ErrArg, api.ErrDisc, api.ErrPrim} {
		if seen[e] < 20 {
			t.Errorf("only %d forms have the error %d", seen[e], e)
		}
	}
}

func checkPower(t *testing.T, f api.Form, n *big.Int, want api.Form) {
	t.Helper()
	g, e := compose.Power(f, fromBig(n))
	isResult(t, g, e, want, api.OK, "Power", show(f), n)
}

func TestPower(t *testing.T) {
	r := rand.New(rand.NewSource(3))
	for _, d := range append(discriminants(-130), -2999, -3000, -5460, -9999, -1<<22, 1-1<<22) {
		for i, f := range classes(d) {
			if i%50 > 7 { // only some of many classes
				continue
			}
			up, down := principal(big.NewInt(d)), principal(big.NewInt(d))
			g := moved(r, f, 3, 5)
			for n := int64(0); n <= 20; n++ {
				checkPower(t, f, big.NewInt(n), up)
				checkPower(t, g, big.NewInt(n), up)
				checkPower(t, f, big.NewInt(-n), down)
				checkPower(t, g, big.NewInt(-n), down)
				up, down = product(up, f), product(down, inverse(f))
			}
		}
	}
}

// Long exponents: what is left of them modulo the order is the same.
func TestPowerLong(t *testing.T) {
	r := rand.New(rand.NewSource(4))
	visit := func(f api.Form, k int) {
		for _, words := range []int{1, 2, 3, 20} {
			n := pattern(r, words)
			for _, n := range []*big.Int{n, neg(n), near(uint(32*words), 0), near(uint(32*words), -1), neg(near(uint(32*words-1), 0))} {
				rest := int(new(big.Int).Mod(n, big.NewInt(int64(k))).Int64())
				checkPower(t, f, n, power(f, rest))
			}
		}
	}
	for _, d := range []int64{-3, -4, -23, -47, -71, -84, -3299, -5460} {
		for _, f := range classes(d) {
			visit(f, order(f))
		}
	}
	for _, n := range []uint{31, 100, 131} {
		f := doubling(n)
		visit(f, int(n))
		visit(moved(r, f, 5, 7), int(n))
	}
	checkPower(t, doubling(1000), big.NewInt(499), bigForm(near(499, 0), big.NewInt(1), near(501, 0)))
	checkPower(t, doubling(1000), add(near(2000, 0), big.NewInt(499-376)), bigForm(near(499, 0), big.NewInt(1), near(501, 0))) // 2^2000 is 376 modulo 1000
}

func checkOrder(t *testing.T, f api.Form, h, want int, wanted api.Errno) {
	t.Helper()
	if n, e := compose.Order(f, h); n != want || e != wanted {
		t.Errorf("Order(%s, %d) is %d, error %d, instead of %d, error %d", show(f), h, n, e, want, wanted)
	}
}

func TestOrder(t *testing.T) {
	r := rand.New(rand.NewSource(5))
	for _, d := range append(discriminants(-160), -1151, -3299, -3896, -5460) {
		for _, f := range classes(d) {
			n := order(f)
			g := moved(r, f, 2, 6)
			for h := -3; h <= 4*n+3; h++ {
				want, wanted := n, api.OK
				if h < 1 || h%n != 0 {
					want, wanted = 0, api.ErrArg
				}
				checkOrder(t, f, h, want, wanted)
				checkOrder(t, g, h, want, wanted)
			}
			for _, h := range []int{math.MinInt, -n, -1 << 32} {
				checkOrder(t, f, h, 0, api.ErrArg)
			}
		}
	}
}

// Multiples that are long, have many factors, or great ones.
func TestOrderLong(t *testing.T) {
	r := rand.New(rand.NewSource(6))
	visit := func(f api.Form, n int) {
		multiples := []int{1, n, n * n, 2, 64, 30030, 1<<31 - 1, 1 << 40, 999999999989, (1<<31 - 1) * 46337, 1<<61 - 1}
		for range 10 {
			multiples = append(multiples, 1+r.Intn(1000), 1+r.Intn(1<<40))
		}
		for _, k := range append(multiples, math.MaxInt/n) {
			if k > math.MaxInt/n {
				continue
			}
			checkOrder(t, f, k*n, n, api.OK)
			for _, h := range []int{k*n + 1, k*n - 1} {
				if h < 1 || n > 1 {
					checkOrder(t, f, h, 0, api.ErrArg)
				} else {
					checkOrder(t, f, h, 1, api.OK)
				}
			}
		}
	}
	for _, d := range []int64{-3, -4, -23, -47, -71, -84, -3299} {
		for _, f := range classes(d) {
			visit(f, order(f))
		}
	}
	for _, n := range []uint{2, 3, 4, 8, 9, 25, 64, 72, 97, 121, 210, 243, 510} {
		visit(doubling(n), int(n))
		visit(moved(r, doubling(n), 4, 9), int(n))
	}
}

// least returns the least b of at least 0 for which b^2 = d modulo 4 p, or -1.
func least(d *big.Int, p int64) int64 {
	m := big.NewInt(4 * p)
	rest := new(big.Int).Mod(d, m).Int64()
	for b := int64(0); b < 2*p; b++ { // b and b + 2 p have the same squares
		if b*b%(4*p) == rest {
			return b
		}
	}
	return -1
}

// checkPrime compares Prime with the definition for a right discriminant and a prime; it returns the error.
func checkPrime(t *testing.T, d *big.Int, p int64) api.Errno {
	t.Helper()
	want, wanted := api.Form{}, api.ErrNone
	if b := least(d, p); b >= 0 {
		c := new(big.Int).Div(sub(big.NewInt(b*b), d), big.NewInt(4*p))
		if f := bigForm(big.NewInt(p), big.NewInt(b), c); errorOf(f) == api.OK {
			want, wanted = reduced(f), api.OK
		}
	}
	f, e := compose.Prime(fromBig(d), int(p))
	isResult(t, f, e, want, wanted, "Prime", d, p)
	return e
}

func TestPrime(t *testing.T) {
	primes := []int64{2, 3, 5, 7, 11, 13, 17, 19, 23, 29, 31, 37, 41, 97, 101, 257}
	count := map[api.Errno]int{}
	for _, d := range append(discriminants(-800), -9*9*7, -25*4, -49*8, -121*3, -1<<20, 1-1<<22) {
		for _, p := range primes {
			count[checkPrime(t, big.NewInt(d), p)]++
		}
	}
	if count[api.OK] < 1000 || count[api.ErrNone] < 1000 || len(count) > 2 {
		t.Errorf("errors are %v", count)
	}
	r := rand.New(rand.NewSource(7))
	for range 60 {
		d := neg(pattern(r, 1+r.Intn(20)))
		d.Mul(d, big.NewInt(4))
		if d.Sign() == 0 {
			continue
		}
		for _, p := range append(primes, 65537, 1048573) {
			checkPrime(t, d, p)
			checkPrime(t, sub(d, big.NewInt(3)), p)
			checkPrime(t, mul(d, big.NewInt(p)), p)
			checkPrime(t, mul(d, big.NewInt(p*p)), p)
			checkPrime(t, sub(mul(d, big.NewInt(2*p)), big.NewInt(7)), p)
		}
	}
}

// First the discriminant is looked at, then the prime, then whether there is a form.
func TestPrimeErrors(t *testing.T) {
	isPrime := func(p int) bool { return p < 1<<20 && big.NewInt(int64(p)).ProbablyPrime(0) }
	ps := []int{math.MinInt, -1 << 32, -7, -2, 1009 * 1009, 1013 * 1021, 1021 * 1021, 1<<20 - 5, 1<<20 - 3, 1<<20 - 2, 1<<20 - 1, 1 << 20, 1<<20 + 1, 1<<20 + 7, 1<<31 - 1, 1<<32 + 15, 1<<61 - 1, math.MaxInt}
	for p := -1; p < 3000; p++ {
		ps = append(ps, p)
	}
	ds := []int64{-23, -24, -3, -4, 5, 8, 0, 1, 4, 12, 13, 2, 3, -1, -2, -5, -6, -9, -1 << 50, 1<<50 + 1}
	for _, d := range ds {
		for _, p := range ps {
			f, e := compose.Prime(num(d), p)
			switch {
			case d >= 0 || d&3 > 1:
				isResult(t, f, e, api.Form{}, api.ErrDisc, "Prime", d, p)
			case p < 0 || !isPrime(p):
				isResult(t, f, e, api.Form{}, api.ErrPrime, "Prime", d, p)
			case p < 200 || p > 2500:
				checkPrime(t, big.NewInt(d), int64(p))
			}
		}
	}
}

// Primes whose squares divide the discriminant: there is a b, but the form need not be primitive.
func TestPrimeImprimitive(t *testing.T) {
	for _, x := range []struct {
		d int64
		p int
		f api.Form
		e api.Errno
	}{
		{-12, 2, api.Form{}, api.ErrNone}, {-16, 2, api.Form{}, api.ErrNone}, {-27, 3, api.Form{}, api.ErrNone}, {-75, 5, api.Form{}, api.ErrNone}, {-100, 5, api.Form{}, api.ErrNone},
		{-8, 2, form(1, 0, 2), api.OK}, {-4, 2, form(1, 0, 1), api.OK}, {-3, 3, form(1, 1, 1), api.OK}, {-24, 2, form(2, 0, 3), api.OK}, {-24, 3, form(2, 0, 3), api.OK}, {-20, 2, form(2, 2, 3), api.OK}, {-15, 3, form(2, 1, 2), api.OK}, {-15, 5, form(2, 1, 2), api.OK}, {-7, 2, form(1, 1, 2), api.OK}, {-32, 2, api.Form{}, api.ErrNone}, {-3, 2, api.Form{}, api.ErrNone}, {-19, 2, api.Form{}, api.ErrNone},
	} {
		f, e := compose.Prime(num(x.d), x.p)
		isResult(t, f, e, x.f, x.e, "Prime", x.d, x.p)
	}
}

func checkRoots(t *testing.T, f api.Form, l []api.Form) []api.Form {
	t.Helper()
	var want []api.Form
	for _, g := range l {
		if errorOf(g) == api.OK && discriminant(g).Cmp(discriminant(f)) == 0 && sameForm(product(g, g), reduced(f)) {
			want = append(want, g)
		}
	}
	got, e := compose.Roots(f, l)
	if e != api.OK || !sameForms(got, want) {
		t.Errorf("Roots(%s) of %d forms has %d elements, error %d, instead of %d", show(f), len(l), len(got), e, len(want))
	}
	return want
}

// Lists with forms that are not reduced, not suitable, of other discriminants, and with forms that occur again, in any order.
func TestRoots(t *testing.T) {
	r := rand.New(rand.NewSource(8))
	found := 0
	for _, d := range append(discriminants(-60), -84, -420, -3299) {
		fs := classes(d)
		l := append(unsuitable(), classes(d-3)...)
		l = append(l, classes(d-4)...)
		for _, f := range fs {
			l = append(l, f, f, inverse(f), moved(r, f, 2, 4), bigForm(mul(toBig(f.A), big.NewInt(2)), mul(toBig(f.B), big.NewInt(2)), mul(toBig(f.C), big.NewInt(2))))
		}
		r.Shuffle(len(l), func(i, j int) { l[i], l[j] = l[j], l[i] })
		for _, f := range fs {
			found += len(checkRoots(t, f, l))
			checkRoots(t, moved(r, f, 3, 3), fs)
			checkRoots(t, f, nil)
		}
	}
	if found < 200 {
		t.Errorf("only %d roots", found)
	}
	f := doubling(200)
	l := []api.Form{f, inverse(f), moved(r, power(f, 101), 6, 9), power(f, 102), power(f, 2)}
	if n := len(checkRoots(t, moved(r, power(f, 2), 4, 8), l)); n != 2 {
		t.Errorf("%d long roots", n)
	}
}

// Lists with forms of many discriminants, some of whose squares differ from f in one coefficient only.
func TestRootsOfDiscriminants(t *testing.T) {
	var l []api.Form
	for _, d := range discriminants(-140) {
		l = append(l, classes(d)...)
	}
	for _, f := range l {
		checkRoots(t, f, l)
	}
}

// Lists of up to 400 elements.
func TestRootsOfLongLists(t *testing.T) {
	f := form(2, 1, 3)
	l := make([]api.Form, 402)
	for i := range l {
		l[i] = inverse(f)
	}
	for _, n := range []int{0, 1, 399, 400} {
		if m := len(checkRoots(t, f, l[:n])); m != n {
			t.Errorf("%d of %d are roots", m, n)
		}
	}
	for _, n := range []int{401, 402} {
		if got, e := compose.Roots(f, l[:n]); e != api.ErrArg || len(got) != 0 {
			t.Errorf("Roots of %d forms has %d elements, error %d", n, len(got), e)
		}
	}
}

func TestExamples(t *testing.T) {
	f, g := form(2, 1, 3), form(2, -1, 3)
	if fs := classes(-23); !sameForms(fs, []api.Form{form(1, 1, 6), g, f}) {
		t.Errorf("%d reduced forms of -23", len(fs))
	}
	checkCompose(t, f, f, g)
	checkPower(t, f, big.NewInt(-1), g)
	checkOrder(t, f, 6, 3, api.OK)
	h, e := compose.Prime(num(-23), 3)
	isResult(t, h, e, g, api.OK, "Prime(-23, 3)")
	if !sameForm(reduced(form(3, 1, 2)), g) {
		t.Error("(3, 1, 2)")
	}
	h, e = compose.Prime(num(-23), 5)
	isResult(t, h, e, api.Form{}, api.ErrNone, "Prime(-23, 5)")
}
