package compose_test

import (
	"math/big"
	"math/rand"
	"testing"

	"algorist/api"
	"algorist/compose"
	"algorist/integer"
	"algorist/modular"
	"algorist/quadratic"
)

// times, raised and orderOf return the results of Compose, Power and Order for suitable forms.
func times(t *testing.T, f, g api.Form) api.Form {
	t.Helper()
	h, e := compose.Compose(f, g)
	if e != api.OK || !quadratic.Reduced(h) || !same(quadratic.Disc(h), quadratic.Disc(f)) || !quadratic.Primitive(h) {
		t.Fatalf("Compose(%s, %s) is %s, error %d", show(f), show(g), show(h), e)
	}
	return h
}

func raised(t *testing.T, f api.Form, n api.Int) api.Form {
	t.Helper()
	g, e := compose.Power(f, n)
	if e != api.OK || !quadratic.Reduced(g) || !same(quadratic.Disc(g), quadratic.Disc(f)) || !quadratic.Primitive(g) {
		t.Fatalf("Power(%s, %v) is %s, error %d", show(f), n, show(g), e)
	}
	return g
}

func orderOf(t *testing.T, f api.Form, h int) int {
	t.Helper()
	n, e := compose.Order(f, h)
	if e != api.OK {
		t.Fatalf("Order(%s, %d): error %d", show(f), h, e)
	}
	return n
}

func principalOf(t *testing.T, f api.Form) api.Form {
	t.Helper()
	g, e := quadratic.Principal(quadratic.Disc(f))
	if e != api.OK {
		t.Fatalf("no principal form for %s", show(f))
	}
	return g
}

func inverseOf(t *testing.T, f api.Form) api.Form {
	t.Helper()
	g, e := quadratic.Inverse(f)
	if e != api.OK {
		t.Fatalf("Inverse(%s): error %d", show(f), e)
	}
	return g
}

// checkLaws checks that composition is commutative and associative, that the principal class is neutral, and that inverses have it as product.
func checkLaws(t *testing.T, f, g, h api.Form) {
	t.Helper()
	fg, gh := times(t, f, g), times(t, g, h)
	if !sameForm(fg, times(t, g, f)) {
		t.Errorf("%s and %s are not commutative", show(f), show(g))
	}
	if !sameForm(times(t, fg, h), times(t, f, gh)) {
		t.Errorf("%s, %s and %s are not associative", show(f), show(g), show(h))
	}
	one := principalOf(t, f)
	if !sameForm(times(t, f, one), times(t, one, f)) || !sameForm(times(t, f, one), reduced(f)) {
		t.Errorf("the principal class times %s is %s", show(f), show(times(t, f, one)))
	}
	if !sameForm(times(t, f, inverse(f)), one) || !sameForm(times(t, inverseOf(t, f), f), one) {
		t.Errorf("%s times its inverse is %s", show(f), show(times(t, f, inverse(f))))
	}
}

// P9.2: all classes of small discriminants, and forms that are not reduced.
func TestGroup(t *testing.T) {
	for _, d := range append(discriminants(-200), -420, -3299) {
		fs := classes(d)
		for _, f := range fs {
			for _, g := range fs {
				for _, h := range fs {
					checkLaws(t, f, g, h)
				}
			}
		}
	}
	for _, d := range []int64{-32, -36, -63, -64, -76, -108, -128, -144, -243} { // with forms that have common divisors in many ways
		fs := forms(d, 12)
		r := rand.New(rand.NewSource(21))
		for _, f := range fs {
			for _, g := range fs {
				checkLaws(t, f, g, fs[r.Intn(len(fs))])
			}
		}
	}
}

func TestGroupLong(t *testing.T) {
	r := rand.New(rand.NewSource(22))
	for _, words := range []int{1, 1, 2, 2, 4, 10} {
		fs := related(r, words)
		for range 60 {
			checkLaws(t, fs[r.Intn(len(fs))], fs[r.Intn(len(fs))], fs[r.Intn(len(fs))])
		}
	}
}

// P9.2: results depend on the classes only.
func TestClassesOnly(t *testing.T) {
	r := rand.New(rand.NewSource(23))
	visit := func(f, g api.Form) {
		want, square := times(t, f, g), raised(t, f, num(3))
		for range 3 {
			x, y := moved(r, f, 1+r.Intn(5), uint(1+r.Intn(20))), moved(r, g, 1+r.Intn(5), uint(1+r.Intn(40)))
			if got := times(t, x, y); !sameForm(got, want) {
				t.Errorf("%s times %s is %s, not %s", show(x), show(y), show(got), show(want))
			}
			if got := raised(t, x, num(3)); !sameForm(got, square) {
				t.Errorf("the third power of %s is %s, not %s", show(x), show(got), show(square))
			}
		}
	}
	for _, d := range append(discriminants(-150), -423, -500) {
		fs := classes(d)
		for _, f := range fs {
			for _, g := range fs {
				visit(f, g)
			}
		}
	}
	for _, words := range []int{1, 2, 3} {
		fs := related(r, words)
		for range 20 {
			visit(fs[r.Intn(len(fs))], fs[r.Intn(len(fs))])
		}
	}
}

// P9.2: class groups that are known, by the numbers of classes of each order.
func TestKnownGroups(t *testing.T) {
	for _, x := range []struct {
		d      int64
		orders map[int]int
	}{
		{-3, map[int]int{1: 1}}, {-163, map[int]int{1: 1}}, {-12, map[int]int{1: 1}}, {-15, map[int]int{1: 1, 2: 1}}, {-23, map[int]int{1: 1, 3: 2}}, {-39, map[int]int{1: 1, 2: 1, 4: 2}}, {-84, map[int]int{1: 1, 2: 3}}, {-47, map[int]int{1: 1, 5: 4}},
		{-71, map[int]int{1: 1, 7: 6}}, {-5460, map[int]int{1: 1, 2: 15}}, {-4027, map[int]int{1: 1, 3: 8}}, {-3299, map[int]int{1: 1, 3: 8, 9: 18}}, {-3896, map[int]int{1: 1, 2: 1, 3: 8, 4: 2, 6: 8, 12: 16}}, {-12451, map[int]int{1: 1, 5: 24}}, {-63499, map[int]int{1: 1, 7: 48}},
	} {
		count := map[int]int{}
		fs := classes(x.d)
		for _, f := range fs {
			count[orderOf(t, f, len(fs))]++
		}
		same := len(count) == len(x.orders)
		for n, k := range x.orders {
			same = same && count[n] == k
		}
		if !same {
			t.Errorf("classes of %d have the orders %v, not %v", x.d, count, x.orders)
		}
	}
}

// represents reports whether a positive definite form has the value n, by 4 a n = (2 a x + b y)^2 - d y^2.
func represents(f api.Form, n *big.Int) bool {
	a, b, d := toBig(f.A), toBig(f.B), discriminant(f)
	four := mul(big.NewInt(4), mul(a, n))
	for y := int64(0); ; y++ {
		square := add(four, mul(d, big.NewInt(y*y)))
		if square.Sign() < 0 {
			return false
		}
		s := new(big.Int).Sqrt(square)
		if mul(s, s).Cmp(square) != 0 {
			continue
		}
		by := mul(b, big.NewInt(y))
		for _, s := range []*big.Int{s, neg(s)} {
			if new(big.Int).Mod(sub(s, by), add(a, a)).Sign() == 0 {
				return true
			}
		}
	}
}

// P9.3: a product of values is a value of the product.
func TestValues(t *testing.T) {
	for _, d := range append(discriminants(-130), -231, -420, -423) {
		fs := classes(d)
		for _, f := range fs {
			for _, g := range fs {
				h := times(t, f, g)
				for x := int64(-2); x <= 2; x++ {
					for y := int64(0); y <= 2; y++ {
						m, n := value(f, big.NewInt(x), big.NewInt(y)), value(g, big.NewInt(y+1), big.NewInt(x))
						if k := mul(m, n); !represents(h, k) {
							t.Errorf("%v, a value of %s times one of %s, is no value of %s", k, show(f), show(g), show(h))
						}
					}
				}
			}
		}
	}
	for _, d := range []int64{-32, -63, -76, -108, -128} {
		for _, f := range forms(d, 10) {
			for _, g := range forms(d, 10) {
				if k := mul(toBig(f.A), toBig(g.A)); !represents(times(t, f, g), k) {
					t.Errorf("%v is no value of %s times %s", k, show(f), show(g))
				}
			}
		}
	}
}

// P9.4: powers of sums are products of powers; powers of products of exponents are powers of powers.
func TestPowersOfSums(t *testing.T) {
	r := rand.New(rand.NewSource(24))
	visit := func(f api.Form, m, n *big.Int) {
		x, y := raised(t, f, fromBig(m)), raised(t, f, fromBig(n))
		if got, want := times(t, x, y), raised(t, f, fromBig(add(m, n))); !sameForm(got, want) {
			t.Errorf("powers of %s with %v and %v have the product %s, not %s", show(f), m, n, show(got), show(want))
		}
		if got, want := raised(t, x, fromBig(n)), raised(t, f, fromBig(mul(m, n))); !sameForm(got, want) {
			t.Errorf("the power of %s with %v, to the power of %v, is %s, not %s", show(f), m, n, show(got), show(want))
		}
	}
	for _, d := range append(discriminants(-60), -407, -3299) {
		for _, f := range classes(d) {
			for m := int64(-5); m <= 5; m++ {
				for n := int64(-5); n <= 5; n++ {
					visit(f, big.NewInt(m), big.NewInt(n))
				}
			}
		}
	}
	for _, words := range []int{1, 2, 5} {
		for _, f := range related(r, words)[:8] {
			m, n := pattern(r, words), pattern(r, 1)
			visit(f, m, n)
			visit(f, neg(m), n)
			visit(f, m, neg(n))
			visit(f, m, neg(m))
		}
	}
}

// P9.4: the order divides exactly the exponents whose power is principal.
func TestOrders(t *testing.T) {
	visit := func(f api.Form, h int) {
		n, one := orderOf(t, f, h), principalOf(t, f)
		if h%n != 0 {
			t.Errorf("the order %d of %s does not divide %d", n, show(f), h)
		}
		for k := -2*n - 1; k <= 2*n+1; k++ {
			is := sameForm(raised(t, f, num(int64(k))), one)
			if is != (k%n == 0) {
				t.Errorf("the order of %s is %d; it is %v that its power with %d is principal", show(f), n, is, k)
			}
			if m, e := compose.Order(f, k); (e == api.OK) != (is && k > 0) || e == api.OK && m != n {
				t.Errorf("Order(%s, %d) is %d, error %d", show(f), k, m, e)
			}
		}
	}
	for _, d := range append(discriminants(-150), -647, -1000) {
		fs := classes(d)
		for _, f := range fs {
			visit(f, len(fs)) // Lagrange: orders divide the number of classes
			visit(f, 12*len(fs))
		}
	}
	visit(doubling(90), 90*91)
}

// P9.5: a form of a prime represents it, and is there exactly if d is a square modulo 4 p and the form is primitive.
func TestPrimes(t *testing.T) {
	visit := func(d *big.Int, p int64) {
		f, e := compose.Prime(fromBig(d), int(p))
		b := least(d, p)
		c := new(big.Int).Div(sub(big.NewInt(b*b), d), big.NewInt(4*p))
		is := b >= 0 && (b%p != 0 || new(big.Int).Mod(c, big.NewInt(p)).Sign() != 0) // for a form with A = p to be primitive
		switch {
		case is != (e == api.OK):
			t.Errorf("Prime(%v, %d): error %d", d, p, e)
		case is && (!quadratic.Reduced(f) || !same(quadratic.Disc(f), fromBig(d)) || !quadratic.Primitive(f) || !represents(f, big.NewInt(p))):
			t.Errorf("Prime(%v, %d) is %s", d, p, show(f))
		}
		if p > 2 && new(big.Int).Mod(d, big.NewInt(p)).Sign() != 0 { // then the symbol says it
			if k := modular.Kronecker(fromBig(d), num(p)); (k == 1) != (e == api.OK) {
				t.Errorf("Prime(%v, %d): error %d, but the symbol is %d", d, p, e, k)
			}
		}
	}
	for _, d := range append(discriminants(-500), -3299, -1<<20) {
		for p := int64(2); p < 80; p++ {
			if big.NewInt(p).ProbablyPrime(0) {
				visit(big.NewInt(d), p)
			}
		}
	}
	r := rand.New(rand.NewSource(25))
	for range 20 {
		d := add(mul(pattern(r, 3), big.NewInt(-4)), big.NewInt(-3))
		for _, p := range []int64{2, 3, 5, 7, 11, 13, 1009, 65537} {
			visit(d, p)
		}
	}
}

// P9.5: each class that represents p is that of Prime(d, p), or its inverse.
func TestClassesOfPrimes(t *testing.T) {
	for _, d := range append(discriminants(-300), -3299) {
		for _, p := range []int64{2, 3, 5, 7, 11, 13, 17, 19} {
			f, e := compose.Prime(num(d), int(p))
			for _, g := range classes(d) {
				if !represents(g, big.NewInt(p)) {
					continue
				}
				if e != api.OK || !sameForm(g, f) && !sameForm(g, inverseOf(t, f)) {
					t.Errorf("%s represents %d, but Prime(%d, %d) is %s, error %d", show(g), p, d, p, show(f), e)
				}
			}
		}
	}
}

// P9.6: among all reduced forms, a class has no root, or as many as there are classes whose square is principal; and each class is the square of its roots.
func TestNumbersOfRoots(t *testing.T) {
	for _, d := range append(discriminants(-600), -3299, -3896, -5460, -4620, -9240) {
		fs := classes(d)
		principal, e := quadratic.Principal(num(d))
		twos, e2 := compose.Roots(principal, fs)
		if e != api.OK || e2 != api.OK || len(twos) == 0 || len(fs)%len(twos) != 0 {
			t.Fatalf("%d: the principal class has %d roots, errors %d, %d", d, len(twos), e, e2)
		}
		all := 0
		for _, f := range fs {
			roots, e := compose.Roots(f, fs)
			if e != api.OK || len(roots) != 0 && len(roots) != len(twos) {
				t.Errorf("%s has %d roots, and the principal class %d; error %d", show(f), len(roots), len(twos), e)
			}
			for _, g := range roots {
				if !sameForm(times(t, g, g), f) || !sameForm(raised(t, g, num(2)), f) {
					t.Errorf("the square of %s is %s, not %s", show(g), show(times(t, g, g)), show(f))
				}
			}
			all += len(roots)
		}
		if all != len(fs) { // each class has one square
			t.Errorf("%d: %d classes have %d squares", d, len(fs), all)
		}
		for _, f := range twos {
			if n := orderOf(t, f, 2); n > 2 || (n == 1) != (integer.Cmp(f.A, num(1)) == 0) {
				t.Errorf("the order of %s is %d", show(f), n)
			}
		}
	}
}
