package genus_test

import (
	"math/big"
	"math/rand"
	"slices"
	"testing"

	"algorist/api"
	"algorist/compose"
	"algorist/genus"
	"algorist/integer"
	"algorist/modular"
	"algorist/quadratic"
)

// valuesOf, charactersOf, generaOf and ambiguousOf return the results of Values, Characters, Genera and Ambiguous for right forms and discriminants.
func valuesOf(t *testing.T, f api.Form) []int {
	t.Helper()
	v, e := genus.Values(f)
	if e != api.OK || slices.ContainsFunc(v, func(n int) bool { return n != 1 && n != -1 }) {
		t.Fatalf("Values(%s) is %v, error %d", show(f), v, e)
	}
	return v
}

func charactersOf(t *testing.T, d int64) []int {
	t.Helper()
	l, e := genus.Characters(num(d))
	if e != api.OK || len(l) == 0 {
		t.Fatalf("Characters(%d) is %v, error %d", d, l, e)
	}
	return l
}

func generaOf(t *testing.T, d int64) int {
	t.Helper()
	n, e := genus.Genera(num(d))
	if e != api.OK {
		t.Fatalf("Genera(%d): error %d", d, e)
	}
	return n
}

func ambiguousOf(t *testing.T, d int64) []api.Form {
	t.Helper()
	l, e := genus.Ambiguous(num(d))
	if e != api.OK {
		t.Fatalf("Ambiguous(%d): error %d", d, e)
	}
	return l
}

func times(t *testing.T, f, g api.Form) api.Form {
	t.Helper()
	h, e := compose.Compose(f, g)
	if e != api.OK {
		t.Fatalf("Compose(%s, %s): error %d", show(f), show(g), e)
	}
	return h
}

// kronecker returns the value of a character as a symbol: the number of an odd prime is below.
func kronecker(k int, n api.Int) int {
	c := integer.Of(int64(k))
	if k%2 != 0 {
		return modular.Kronecker(n, c)
	}
	return modular.Kronecker(c, n)
}

// P10.2: the characters have the same values at all numbers, coprime to twice the discriminant, that a form represents, also improperly.
func TestNumbers(t *testing.T) {
	r := rand.New(rand.NewSource(11))
	visited := 0
	visit := func(f api.Form) {
		d := discriminant(f)
		characters, v := charactersOf(t, d.Int64()), valuesOf(t, f)
		for x := int64(-6); x <= 6; x++ {
			for y := int64(0); y <= 6; y++ {
				n := value(f, big.NewInt(x), big.NewInt(y))
				if n.Bit(0) == 0 || !isOne(gcd(n, d)) {
					continue
				}
				visited++
				for i, k := range characters {
					if symbol(k, n) != v[i] || kronecker(k, fromBig(n)) != v[i] {
						t.Errorf("%s represents %v, but its value of %d is %d", show(f), n, k, v[i])
					}
				}
			}
		}
	}
	for _, d := range append(discriminants(-3, -400), -5460, -3299) {
		for _, f := range classes(d) {
			visit(f)
			visit(moved(r, f, 2, 8))
		}
	}
	for _, d := range append(special(), random(r, 20)...) {
		fs := classes(d)
		visit(fs[r.Intn(len(fs))])
		visit(moved(r, fs[r.Intn(len(fs))], 2, 60))
	}
	if visited < 20000 {
		t.Errorf("only %d numbers", visited)
	}
}

// P10.2: equivalent forms have the same values, and so are of the same genus.
func TestEquivalentForms(t *testing.T) {
	r := rand.New(rand.NewSource(12))
	for _, d := range append(discriminants(-3, -300), special()...) {
		fs := classes(d)
		for range 5 {
			f := fs[r.Intn(len(fs))]
			g := moved(r, f, 1+r.Intn(5), uint(1+r.Intn(80)))
			if _, is := quadratic.Same(f, g); !is {
				t.Fatalf("%s and %s", show(f), show(g))
			}
			if !slices.Equal(valuesOf(t, f), valuesOf(t, g)) {
				t.Errorf("%s and %s have the values %v and %v", show(f), show(g), valuesOf(t, f), valuesOf(t, g))
			}
			checkSame(t, f, g, true, api.OK)
			checkSame(t, g, f, true, api.OK)
			a, e := genus.Principal(f)
			b, e2 := genus.Principal(g)
			if a != b || e != api.OK || e2 != api.OK {
				t.Errorf("Principal is %v, error %d, for %s, but %v, error %d, for %s", a, e, show(f), b, e2, show(g))
			}
		}
	}
}

// sorted returns the classes of a discriminant by their values.
func sorted(t *testing.T, fs []api.Form) map[string][]api.Form {
	t.Helper()
	genera := map[string][]api.Form{}
	for _, f := range fs {
		key := ""
		for _, v := range valuesOf(t, f) {
			key += map[int]string{1: "+", -1: "-"}[v]
		}
		genera[key] = append(genera[key], f)
	}
	return genera
}

// P10.3 and P10.4: all genera have the same number of classes; there are as many as Genera says, and as many ambiguous classes.
func TestCounting(t *testing.T) {
	r := rand.New(rand.NewSource(13))
	ds := append(discriminants(-3, -2500), special()...)
	for _, d := range append(ds, random(r, 20)...) {
		fs := classes(d)
		genera, n := sorted(t, fs), generaOf(t, d)
		if len(genera) != n {
			t.Errorf("Genera(%d) is %d, but classes have %d different values", d, n, len(genera))
		}
		for key, part := range genera {
			if len(part)*n != len(fs) {
				t.Errorf("%d of the %d classes of %d have the values %s", len(part), len(fs), d, key)
			}
		}
		twos := 0
		for _, f := range fs {
			if g, e := quadratic.Inverse(f); e == api.OK && sameForm(f, g) {
				twos++
			}
		}
		if l := ambiguousOf(t, d); len(l) != n || twos != n {
			t.Errorf("Genera(%d) is %d, but Ambiguous has %d forms, and %d classes are their own inverses", d, n, len(l), twos)
		}
	}
}

// P10.4: ambiguous forms are different, sorted, reduced, primitive, of their discriminant, and their own inverses.
func TestAmbiguousForms(t *testing.T) {
	before := func(f, g api.Form) bool {
		for _, x := range [][2]api.Int{{f.A, g.A}, {f.B, g.B}, {f.C, g.C}} {
			if c := integer.Cmp(x[0], x[1]); c != 0 {
				return c < 0
			}
		}
		return false
	}
	r := rand.New(rand.NewSource(14))
	ds := append(discriminants(-3, -5000), special()...)
	for _, d := range append(ds, random(r, 100)...) {
		l := ambiguousOf(t, d)
		if !sameForm(l[0], principal(d)) {
			t.Errorf("the first ambiguous form of %d is %s", d, show(l[0]))
		}
		for i, f := range l {
			if i > 0 && !before(l[i-1], f) {
				t.Errorf("%s stands before %s", show(l[i-1]), show(f))
			}
			if !quadratic.Reduced(f) || !quadratic.Primitive(f) || !same(quadratic.Disc(f), num(d)) {
				t.Errorf("%d has the ambiguous form %s", d, show(f))
			}
			if _, is := quadratic.Same(f, inverse(f)); !is {
				t.Errorf("%s is not equivalent to its inverse", show(f))
			}
		}
	}
}

// checkProduct checks that the values of a product are the products of the values.
func checkProduct(t *testing.T, f, g api.Form) {
	t.Helper()
	v, w, z := valuesOf(t, f), valuesOf(t, g), valuesOf(t, times(t, f, g))
	if len(v) != len(w) || len(v) != len(z) {
		t.Fatalf("%d, %d and %d values", len(v), len(w), len(z))
	}
	for i := range z {
		if z[i] != v[i]*w[i] {
			t.Errorf("the values of %s, %s and their product are %v, %v, %v", show(f), show(g), v, w, z)
		}
	}
}

// P10.5: composition multiplies values.
func TestComposition(t *testing.T) {
	r := rand.New(rand.NewSource(15))
	for _, d := range append(discriminants(-3, -500), -3299, -5460) {
		fs := classes(d)
		for _, f := range fs {
			for _, g := range fs {
				checkProduct(t, f, g)
			}
			checkProduct(t, moved(r, f, 2, 30), moved(r, f, 3, 30))
		}
	}
	for _, d := range append(special(), random(r, 30)...) {
		fs := classes(d)
		for range 10 {
			checkProduct(t, fs[r.Intn(len(fs))], fs[r.Intn(len(fs))])
		}
	}
}

// P10.6: the classes of the principal genus are the squares of all classes.
func TestSquares(t *testing.T) {
	r := rand.New(rand.NewSource(16))
	ds := append(discriminants(-3, -1500), special()...)
	for _, d := range append(ds, random(r, 10)...) {
		fs := classes(d)
		squares := map[string]bool{}
		for _, f := range fs {
			squares[show(times(t, f, f))] = true
		}
		if len(squares)*generaOf(t, d) != len(fs) {
			t.Errorf("%d of the %d classes of %d are squares", len(squares), len(fs), d)
		}
		for _, f := range fs {
			is, e := genus.Principal(f)
			also, e2 := genus.Same(f, principal(d))
			if is != squares[show(f)] || also != is || e != api.OK || e2 != api.OK {
				t.Errorf("%s: %v that it is a square; Principal is %v, error %d; Same with the principal form is %v, error %d", show(f), squares[show(f)], is, e, also, e2)
			}
		}
	}
}

// P10.7: exactly the right discriminants and forms are accepted, and with an error there is no result.
func TestRefusal(t *testing.T) {
	for _, d := range mixedDiscriminants() {
		right := d.Sign() < 0 && rest(d, 4) < 2 && d.Cmp(big.NewInt(least)) >= 0
		l, e1 := genus.Characters(fromBig(d))
		n, e2 := genus.Genera(fromBig(d))
		fs, e3 := genus.Ambiguous(fromBig(d))
		if (e1 == api.OK) != right || (e2 == api.OK) != right || (e3 == api.OK) != right || (len(l) > 0) != right || (n > 0) != right || (len(fs) > 0) != right {
			t.Errorf("%v: %v, error %d; %d, error %d; %v, error %d", d, l, e1, n, e2, showAll(fs), e3)
		}
	}
	visit := func(f api.Form) {
		right := quadratic.Check(f) == api.OK && errorOfDiscriminant(discriminant(f)) == api.OK && quadratic.Primitive(f)
		v, e1 := genus.Values(f)
		is, e2 := genus.Same(f, f)
		principal, e3 := genus.Principal(f)
		if (e1 == api.OK) != right || (e2 == api.OK) != right || (e3 == api.OK) != right || (len(v) > 0) != right || is != right || principal && !right {
			t.Errorf("%s: %v, error %d; %v, error %d; %v, error %d", show(f), v, e1, is, e2, principal, e3)
		}
	}
	boxed(6, visit)
	for _, f := range wrong() {
		visit(f)
	}
	for _, c := range []int64{1<<20 - 1, 1 << 20, 1<<20 + 1} {
		for b := int64(-4); b <= 4; b++ {
			visit(form(1, b, c))
			visit(form(-1, b, -c))
			visit(form(2, b, c))
			visit(form(c, b, 3))
			visit(form(c, b, -1))
		}
	}
}
