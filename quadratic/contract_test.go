package quadratic_test

// P8.1: each function does what H1 to H7 say, compared with the definitions, and with the examples of the chapter.

import (
	"math/big"
	"math/rand"
	"slices"
	"testing"

	"algorist/api"
	"algorist/quadratic"
)

// isNumber checks that a result is the canonical value of a number.
func isNumber(t *testing.T, got api.Int, want *big.Int, what ...any) {
	t.Helper()
	if !same(got, fromBig(want)) {
		t.Errorf("%v is %v, not %v", what, got, want)
	}
}

// checkFacts compares Check, Disc, Primitive and Reduced with the definitions.
func checkFacts(t *testing.T, f api.Form) {
	t.Helper()
	isError(t, quadratic.Check(f), errorOf(f), "Check", show(f))
	isNumber(t, quadratic.Disc(f), discriminant(f), "Disc", show(f))
	g := new(big.Int).GCD(nil, nil, toBig(f.A), toBig(f.B))
	g.GCD(nil, nil, g, toBig(f.C))
	if got := quadratic.Primitive(f); got != (g.Cmp(big.NewInt(1)) == 0) {
		t.Errorf("Primitive%s is %v", show(f), got)
	}
	if got := quadratic.Reduced(f); got != reduced(f) {
		t.Errorf("Reduced%s is %v", show(f), got)
	}
}

func TestFacts(t *testing.T) {
	boxed(9, func(f api.Form) { checkFacts(t, f) })
	r := rand.New(rand.NewSource(1))
	zs := longs(r)
	for range 1500 {
		f := longForm(r, zs)
		checkFacts(t, f)
		checkFacts(t, api.Form{A: f.A, B: fromBig(mul(toBig(f.B), big.NewInt(2))), C: f.C})
		for _, k := range []*big.Int{big.NewInt(-1), big.NewInt(2), near(32, 0), near(31, -1)} {
			checkFacts(t, bigForm(mul(toBig(f.A), k), mul(toBig(f.B), k), mul(toBig(f.C), k)))
		}
	}
	for _, bits := range []uint{1, 2, 30, 31, 32, 33, 64, 200} {
		for _, f := range longReduced(r, bits) {
			checkFacts(t, f)
			checkFacts(t, bigForm(toBig(f.A), neg(toBig(f.B)), toBig(f.C)))
			checkFacts(t, bigForm(toBig(f.C), toBig(f.B), toBig(f.A)))
			checkFacts(t, bigForm(neg(toBig(f.A)), toBig(f.B), neg(toBig(f.C))))
			checkFacts(t, bigForm(toBig(f.A), toBig(f.B), neg(toBig(f.C))))
			for _, one := range []*big.Int{big.NewInt(1), big.NewInt(-1)} {
				checkFacts(t, bigForm(add(toBig(f.A), one), toBig(f.B), toBig(f.C)))
				checkFacts(t, bigForm(toBig(f.A), add(toBig(f.B), one), toBig(f.C)))
				checkFacts(t, bigForm(toBig(f.A), toBig(f.B), add(toBig(f.C), one)))
			}
		}
	}
}

// Long discriminants that are squares, or next to squares: products of two linear forms, and these with another C.
func TestSquares(t *testing.T) {
	r := rand.New(rand.NewSource(2))
	zs := longs(r)
	squares := 0
	for range 400 {
		a, b, c, d := pick(r, zs), pick(r, zs), pick(r, zs), pick(r, zs)
		f := bigForm(mul(a, c), add(mul(a, d), mul(b, c)), mul(b, d))
		if !isSquare(discriminant(f)) {
			t.Fatalf("the discriminant of %s", show(f))
		}
		for _, k := range []int64{0, 1, -1} {
			g := api.Form{A: f.A, B: f.B, C: fromBig(add(toBig(f.C), big.NewInt(k)))}
			checkFacts(t, g)
			if isSquare(discriminant(g)) {
				squares++
			}
		}
	}
	if squares < 400 || squares > 1100 {
		t.Errorf("%d discriminants are squares", squares)
	}
}

// checkAction compares Value, Apply, Det and Times with the definitions.
func checkAction(t *testing.T, f api.Form, m, n api.Mat) {
	t.Helper()
	isNumber(t, quadratic.Value(f, m.A, m.D), value(f, toBig(m.A), toBig(m.D)), "Value", show(f), showMat(m))
	if g := quadratic.Apply(f, m); !sameForm(g, under(f, m)) {
		t.Errorf("%s under %s is %s", show(f), showMat(m), show(g))
	}
	isNumber(t, quadratic.Det(m), determinant(m), "Det", showMat(m))
	if p := quadratic.Times(m, n); !sameMat(p, product(m, n)) {
		t.Errorf("%s times %s is %s", showMat(m), showMat(n), showMat(p))
	}
}

func TestAction(t *testing.T) {
	r := rand.New(rand.NewSource(3))
	small := func() int64 { return r.Int63n(11) - 5 }
	boxed(4, func(f api.Form) {
		for range 10 {
			checkAction(t, f, mat(small(), small(), small(), small()), mat(small(), small(), small(), small()))
		}
	})
	for k := range 16 { // each entry alone, and each two
		unit := func(i int) int64 { return int64(k >> i & 1) }
		m := mat(unit(0), unit(1), unit(2), unit(3))
		checkAction(t, form(2, 3, 5), m, mat(2, 3, 5, 7))
		checkAction(t, form(2, 3, 5), mat(2, 3, 5, 7), m)
	}
	zs := longs(r)
	for range 3000 {
		checkAction(t, longForm(r, zs), longMat(r, zs), longMat(r, zs))
	}
}

func checkPrincipal(t *testing.T, d *big.Int) {
	t.Helper()
	f, e := quadratic.Principal(fromBig(d))
	q, rest := new(big.Int).DivMod(d, big.NewInt(4), new(big.Int))
	want := bigForm(big.NewInt(1), rest, neg(q)) // (d - 1)/4 is d/4 rounded down
	wanted := api.OK
	if rest.Int64() > 1 || isSquare(d) {
		want, wanted = api.Form{}, api.ErrDisc
	}
	if e != wanted || !sameForm(f, want) {
		t.Errorf("Principal(%v) = %s, %d", d, show(f), e)
	}
}

func TestPrincipal(t *testing.T) {
	for d := int64(-200); d <= 200; d++ {
		checkPrincipal(t, big.NewInt(d))
	}
	for _, x := range []struct {
		d int64
		f api.Form
		e api.Errno
	}{
		{-23, form(1, 1, 6), api.OK}, {-20, form(1, 0, 5), api.OK}, {-3, form(1, 1, 1), api.OK}, {-4, form(1, 0, 1), api.OK}, {5, form(1, 1, -1), api.OK}, {8, form(1, 0, -2), api.OK}, {12, form(1, 0, -3), api.OK},
		{0, api.Form{}, api.ErrDisc}, {1, api.Form{}, api.ErrDisc}, {4, api.Form{}, api.ErrDisc}, {9, api.Form{}, api.ErrDisc}, {2, api.Form{}, api.ErrDisc}, {3, api.Form{}, api.ErrDisc}, {-1, api.Form{}, api.ErrDisc}, {-2, api.Form{}, api.ErrDisc},
	} {
		if f, e := quadratic.Principal(num(x.d)); e != x.e || !sameForm(f, x.f) {
			t.Errorf("Principal(%d) = %s, %d", x.d, show(f), e)
		}
	}
	r := rand.New(rand.NewSource(4))
	for _, z := range longs(r) {
		for k := int64(-5); k <= 5; k++ {
			checkPrincipal(t, add(z, big.NewInt(k)))
			checkPrincipal(t, add(mul(z, z), big.NewInt(k)))
			checkPrincipal(t, neg(add(mul(z, z), big.NewInt(k))))
		}
	}
}

// checkReduce checks that a form is reduced to a reduced form under the matrix, or refused; it returns the reduced form.
func checkReduce(t *testing.T, f api.Form) api.Form {
	t.Helper()
	g, m, e := quadratic.Reduce(f)
	isError(t, e, errorOfReduce(f), "Reduce", show(f))
	if e != api.OK {
		if !sameForm(g, api.Form{}) || !sameMat(m, api.Mat{}) {
			t.Errorf("Reduce%s = %s, %s, %d", show(f), show(g), showMat(m), e)
		}
		return g
	}
	if !reduced(g) || !isMoved(f, g, m) {
		t.Errorf("Reduce%s = %s, %s", show(f), show(g), showMat(m))
	}
	return g
}

// isMoved reports whether m is canonical, has the determinant 1, and leads from f to g.
func isMoved(f, g api.Form, m api.Mat) bool {
	for _, a := range []api.Int{m.A, m.B, m.C, m.D} {
		if !canonical(a) {
			return false
		}
	}
	return determinant(m).Cmp(big.NewInt(1)) == 0 && sameForm(under(f, m), g)
}

// checkInverse compares Inverse with the reduced form of A, -B, C.
func checkInverse(t *testing.T, f api.Form) {
	t.Helper()
	g, e := quadratic.Inverse(f)
	isError(t, e, errorOfReduce(f), "Inverse", show(f))
	want := checkReduce(t, api.Form{A: f.A, B: fromBig(neg(toBig(f.B))), C: f.C})
	if !sameForm(g, want) {
		t.Errorf("Inverse%s = %s", show(f), show(g))
	}
}

func TestReduce(t *testing.T) {
	boxed(9, func(f api.Form) {
		checkReduce(t, f)
		checkInverse(t, f)
	})
	r := rand.New(rand.NewSource(5))
	zs := longs(r)
	done := 0
	for range 3000 {
		f := longForm(r, zs)
		checkReduce(t, f)
		checkInverse(t, f)
		if errorOfReduce(f) == api.OK {
			done++
		}
	}
	if done < 300 {
		t.Errorf("only %d of the long forms were reduced", done)
	}
}

// Long forms are reduced to the reduced form from which they were made.
func TestReduceLong(t *testing.T) {
	r := rand.New(rand.NewSource(6))
	for _, bits := range []uint{0, 1, 3, 31, 32, 33, 64, 100, 1000} {
		for _, f := range longReduced(r, bits) {
			for _, m := range []api.Mat{mat(1, 0, 0, 1), mat(0, -1, 1, 0), moves(r, 1, 40), moves(r, 2, 3), moves(r, 20, 2), moves(r, 7, 70)} {
				g := under(f, m)
				if h := checkReduce(t, g); !sameForm(h, f) {
					t.Errorf("Reduce%s = %s, not %s", show(g), show(h), show(f))
				}
				checkInverse(t, g)
			}
		}
	}
	f := longReduced(r, 4096)[0]
	g := under(f, moves(r, 600, 5))
	if h := checkReduce(t, g); !sameForm(h, f) {
		t.Errorf("Reduce%s = %s, not %s", show(g), show(h), show(f))
	}
}

// checkSame compares Same with whether the forms are known to be properly equivalent.
func checkSame(t *testing.T, f, g api.Form, want bool) {
	t.Helper()
	m, ok := quadratic.Same(f, g)
	if ok != want || ok && !isMoved(f, g, m) || !ok && !sameMat(m, api.Mat{}) {
		t.Errorf("Same(%s, %s) = %s, %v", show(f), show(g), showMat(m), ok)
	}
}

func TestSame(t *testing.T) {
	var fs []api.Form
	boxed(6, func(f api.Form) {
		if errorOfReduce(f) == api.OK {
			fs = append(fs, f)
		} else {
			checkSame(t, f, f, false)
			checkSame(t, f, form(1, 0, 1), false)
			checkSame(t, form(1, 1, 1), f, false)
		}
	})
	yes, no := 0, 0
	for _, f := range fs {
		for _, g := range fs {
			if discriminant(f).Cmp(discriminant(g)) != 0 {
				checkSame(t, f, g, false)
				continue
			}
			want := equivalent(f, g)
			checkSame(t, f, g, want)
			if want {
				yes++
			} else {
				no++
			}
		}
	}
	if yes < 1000 || no < 1000 {
		t.Errorf("%d pairs are equivalent, and %d are not", yes, no)
	}
}

func TestSameLong(t *testing.T) {
	r := rand.New(rand.NewSource(7))
	for _, bits := range []uint{3, 32, 64, 300} {
		fs := longReduced(r, bits)
		for i, f := range fs {
			g, h := under(f, moves(r, 9, 20)), under(f, moves(r, 6, 33))
			checkSame(t, g, h, true)
			checkSame(t, f, h, true)
			checkSame(t, g, f, true)
			other := fs[(i+1)%len(fs)]
			checkSame(t, g, other, sameForm(f, other))
			back := bigForm(toBig(h.A), neg(toBig(h.B)), toBig(h.C))
			b := toBig(f.B)
			checkSame(t, g, back, b.Sign() == 0 || b.CmpAbs(toBig(f.A)) == 0 || same(f.A, f.C))
		}
	}
}

func TestExamples(t *testing.T) {
	isNumber(t, quadratic.Disc(form(2, 1, 3)), big.NewInt(-23), "Disc(2, 1, 3)")
	if !quadratic.Reduced(form(2, 1, 3)) {
		t.Error("(2, 1, 3) is reduced")
	}
	isNumber(t, quadratic.Disc(form(10, 34, 29)), big.NewInt(-4), "Disc(10, 34, 29)")
	if g := checkReduce(t, form(10, 34, 29)); !sameForm(g, form(1, 0, 1)) {
		t.Errorf("Reduce(10, 34, 29) = %s", show(g))
	}
	if g, e := quadratic.Inverse(form(2, 1, 3)); e != api.OK || !sameForm(g, form(2, -1, 3)) {
		t.Errorf("Inverse(2, 1, 3) = %s, %d", show(g), e)
	}
	for d, want := range map[int64]api.Form{-23: form(1, 1, 6), -20: form(1, 0, 5)} {
		if g, e := quadratic.Principal(num(d)); e != api.OK || !sameForm(g, want) {
			t.Errorf("Principal(%d) = %s, %d", d, show(g), e)
		}
	}
}

// The edges of reduced forms: |B| = A, and A = C.
func TestEdges(t *testing.T) {
	for _, x := range []struct {
		f, g api.Form
	}{
		{form(2, 2, 3), form(2, 2, 3)}, {form(2, -2, 3), form(2, 2, 3)}, {form(3, 1, 3), form(3, 1, 3)}, {form(3, -1, 3), form(3, 1, 3)}, {form(1, 1, 1), form(1, 1, 1)}, {form(1, -1, 1), form(1, 1, 1)}, {form(2, 2, 2), form(2, 2, 2)}, {form(2, -2, 2), form(2, 2, 2)}, {form(1, 0, 1), form(1, 0, 1)}, {form(4, 0, 4), form(4, 0, 4)},
		{form(2, -1, 3), form(2, -1, 3)}, {form(3, 1, 2), form(2, -1, 3)}, {form(3, -1, 2), form(2, 1, 3)}, {form(3, 2, 2), form(2, 2, 3)}, {form(3, -2, 2), form(2, 2, 3)}, {form(2, 3, 3), form(2, 1, 2)}, {form(2, -3, 3), form(2, 1, 2)}, {form(5, 4, 1), form(1, 0, 1)},
	} {
		if g := checkReduce(t, x.f); !sameForm(g, x.g) {
			t.Errorf("Reduce%s = %s", show(x.f), show(g))
		}
		if got := quadratic.Reduced(x.f); got != sameForm(x.f, x.g) {
			t.Errorf("Reduced%s is %v", show(x.f), got)
		}
		checkSame(t, x.f, x.g, true)
		checkInverse(t, x.f)
	}
}

// The errors of Check, in their order.
func TestErrors(t *testing.T) {
	for _, x := range []struct {
		f api.Form
		e api.Errno
	}{
		{api.Form{}, api.ErrDisc}, {form(0, 1, 5), api.ErrDisc}, {form(0, 0, 7), api.ErrDisc}, {form(3, 0, 0), api.ErrDisc}, {form(1, 2, 1), api.ErrDisc}, {form(-1, 2, -1), api.ErrDisc}, {form(1, 3, 2), api.ErrDisc}, {form(-1, 3, -2), api.ErrDisc}, {form(1, 0, -1), api.ErrDisc}, {form(-1, 0, 1), api.ErrDisc},
		{form(-1, 0, -1), api.ErrArg}, {form(-2, 1, -3), api.ErrArg}, {form(-1, 1, -1), api.ErrArg},
		{form(1, 1, -1), api.OK}, {form(-1, 1, 1), api.OK}, {form(1, 3, 1), api.OK}, {form(-1, 3, -1), api.OK}, {form(1, 0, -2), api.OK}, {form(2, 1, 3), api.OK}, {form(2, 2, 2), api.OK},
	} {
		isError(t, quadratic.Check(x.f), x.e, show(x.f))
		isError(t, errorOf(x.f), x.e, "the definition", show(x.f))
	}
	for _, a := range strange() {
		for _, f := range []api.Form{{A: a, B: num(1), C: num(3)}, {A: num(2), B: a, C: num(3)}, {A: num(2), B: num(1), C: a}, {A: a, B: num(0), C: num(0)}, {A: num(-1), B: a, C: num(-3)}, {A: a, B: a, C: a}} {
			isError(t, quadratic.Check(f), api.ErrArg, f)
		}
	}
}

// Lists of all reduced forms of some discriminants, and how many there are of others.
func TestKnownLists(t *testing.T) {
	for d, want := range map[int64][]api.Form{
		-3: {form(1, 1, 1)}, -12: {form(1, 0, 3), form(2, 2, 2)}, -23: {form(1, 1, 6), form(2, -1, 3), form(2, 1, 3)}, -20: {form(1, 0, 5), form(2, 2, 3)}, -47: {form(1, 1, 12), form(2, -1, 6), form(2, 1, 6), form(3, -1, 4), form(3, 1, 4)}, -15: {form(1, 1, 4), form(2, 1, 2)},
	} {
		if got := filtered(d); !slices.EqualFunc(got, want, sameForm) {
			t.Errorf("the reduced forms of %d are %v", d, got)
		}
	}
	for d, want := range map[int64]int{-71: 7, -84: 4, -163: 1, -167: 11, -420: 8, -1999: 27, -5923: 7} {
		if got := len(filtered(d)); got != want {
			t.Errorf("%d has %d reduced forms", d, got)
		}
	}
}

// filtered returns all forms with a discriminant for which Reduced holds, in a range that has more than these.
func filtered(d int64) []api.Form {
	var fs []api.Form
	for a := int64(1); a*a <= -d; a++ {
		for b := -a - 3; b <= a+3; b++ {
			if (b*b-d)%(4*a) != 0 {
				continue
			}
			if f := form(a, b, (b*b-d)/(4*a)); quadratic.Reduced(f) {
				fs = append(fs, f)
			}
		}
	}
	return fs
}
