package quadratic_test

import (
	"math/big"
	"math/rand"
	"testing"

	"algorist/api"
	"algorist/integer"
	"algorist/quadratic"
)

// acted calls a function with forms, also such that are not right, and matrices of all determinants.
func acted(visit func(f api.Form, m, n api.Mat, x, y api.Int)) {
	r := rand.New(rand.NewSource(11))
	small := func() int64 { return r.Int63n(9) - 4 }
	boxed(3, func(f api.Form) {
		for range 5 {
			visit(f, mat(small(), small(), small(), small()), mat(small(), small(), small(), small()), num(small()), num(small()))
		}
	})
	zs := longs(r)
	for range 1000 {
		visit(longForm(r, zs), longMat(r, zs), longMat(r, zs), fromBig(pick(r, zs)), fromBig(pick(r, zs)))
	}
}

// P8.2: values of a form under a matrix are values of the form, at the place to which the matrix leads.
func TestValuesUnderMatrices(t *testing.T) {
	acted(func(f api.Form, m, _ api.Mat, x, y api.Int) {
		u := integer.Add(integer.Mul(m.A, x), integer.Mul(m.B, y))
		v := integer.Add(integer.Mul(m.C, x), integer.Mul(m.D, y))
		if got, want := quadratic.Value(quadratic.Apply(f, m), x, y), quadratic.Value(f, u, v); !same(got, want) {
			t.Errorf("%s under %s at %v, %v is %v, not %v", show(f), showMat(m), x, y, got, want)
		}
	})
}

// P8.2: forms under products of matrices are those under one matrix after the other.
func TestProductsOfMatrices(t *testing.T) {
	one := mat(1, 0, 0, 1)
	acted(func(f api.Form, m, n api.Mat, _, _ api.Int) {
		if got, want := quadratic.Apply(f, quadratic.Times(m, n)), quadratic.Apply(quadratic.Apply(f, m), n); !sameForm(got, want) {
			t.Errorf("%s under %s and %s is %s, not %s", show(f), showMat(m), showMat(n), show(got), show(want))
		}
		if !sameForm(quadratic.Apply(f, one), f) || !sameMat(quadratic.Times(m, one), m) || !sameMat(quadratic.Times(one, m), m) {
			t.Errorf("the matrix 1, 0, 0, 1 changes %s or %s", show(f), showMat(m))
		}
	})
}

// P8.2: the discriminant is multiplied by the square of the determinant, which is multiplicative.
func TestDeterminants(t *testing.T) {
	acted(func(f api.Form, m, n api.Mat, _, _ api.Int) {
		k := quadratic.Det(m)
		if got, want := quadratic.Disc(quadratic.Apply(f, m)), integer.Mul(quadratic.Disc(f), integer.Mul(k, k)); !same(got, want) {
			t.Errorf("the discriminant of %s under %s is %v, not %v", show(f), showMat(m), got, want)
		}
		if got, want := quadratic.Det(quadratic.Times(m, n)), integer.Mul(k, quadratic.Det(n)); !same(got, want) {
			t.Errorf("Det of %s times %s is %v, not %v", showMat(m), showMat(n), got, want)
		}
	})
}

// definite returns the reduced form to which a right form with a negative discriminant is reduced.
func definite(t *testing.T, f api.Form) api.Form {
	t.Helper()
	g, _, e := quadratic.Reduce(f)
	if e != api.OK {
		t.Fatalf("Reduce%s: error %d", show(f), e)
	}
	return g
}

// P8.3: each right form is properly equivalent to one of the reduced forms of its discriminant, and to no other; this is the one that Reduce returns.
func TestOneReducedForm(t *testing.T) {
	boxed(6, func(f api.Form) {
		if errorOfReduce(f) != api.OK {
			return
		}
		g := definite(t, f)
		for _, h := range allReduced(discriminant(f).Int64()) {
			if got, want := sameForm(g, h), equivalent(f, h); got != want {
				t.Errorf("%s is reduced to %s; it is %v that it is equivalent to %s", show(f), show(g), want, show(h))
			}
		}
	})
}

// P8.3: reduced forms are not equivalent to each other, and forms that are equivalent to one of them are reduced to it.
func TestClasses(t *testing.T) {
	r := rand.New(rand.NewSource(12))
	for _, d := range discriminants(-240) {
		fs := allReduced(d)
		for i, f := range fs {
			if g := definite(t, f); !sameForm(g, f) {
				t.Errorf("%s is reduced to %s", show(f), show(g))
			}
			for range 4 {
				g := quadratic.Apply(f, moves(r, 2+r.Intn(6), uint(1+r.Intn(40))))
				if h := definite(t, g); !sameForm(h, f) {
					t.Errorf("%s is reduced to %s, and not to %s", show(g), show(h), show(f))
				}
				checkSame(t, f, g, true)
				checkSame(t, g, f, true)
				if quadratic.Reduced(g) != sameForm(f, g) {
					t.Errorf("Reduced%s", show(g))
				}
			}
			for j, g := range fs {
				checkSame(t, f, g, i == j)
				if i != j && equivalent(f, g) {
					t.Errorf("%s and %s are equivalent", show(f), show(g))
				}
			}
		}
	}
}

// P8.3: long forms that are equivalent have the same reduced form.
func TestLongClasses(t *testing.T) {
	r := rand.New(rand.NewSource(13))
	zs := longs(r)
	for count := 0; count < 200; {
		f := longForm(r, zs)
		if errorOfReduce(f) != api.OK {
			continue
		}
		count++
		g := definite(t, f)
		for range 3 {
			h := quadratic.Apply(f, moves(r, 1+r.Intn(8), uint(1+r.Intn(50))))
			if k := definite(t, h); !sameForm(g, k) {
				t.Errorf("%s and %s are reduced to %s and %s", show(f), show(h), show(g), show(k))
			}
		}
		if k := definite(t, g); !sameForm(g, k) {
			t.Errorf("%s is reduced to %s", show(g), show(k))
		}
	}
}

// P8.4: A is the least value but 0, and C the least one at places that are no multiples of (1, 0).
func TestMinima(t *testing.T) {
	const most = 6 // farther away, values of a form with |B| <= A <= C are greater
	check := func(f api.Form) {
		var least, other api.Int
		for x := int64(-most); x <= most; x++ {
			for y := int64(-most); y <= most; y++ {
				v := quadratic.Value(f, num(x), num(y))
				if x == 0 && y == 0 {
					continue
				}
				if integer.Sign(least) == 0 || integer.Cmp(v, least) < 0 {
					least = v
				}
				if y != 0 && (integer.Sign(other) == 0 || integer.Cmp(v, other) < 0) {
					other = v
				}
			}
		}
		if !same(least, f.A) || !same(other, f.C) {
			t.Errorf("the least values of %s are %v and %v", show(f), least, other)
		}
	}
	for _, d := range discriminants(-300) {
		for _, f := range allReduced(d) {
			check(definite(t, f))
		}
	}
	boxed(6, func(f api.Form) {
		if errorOfReduce(f) == api.OK {
			check(definite(t, f))
		}
	})
	r := rand.New(rand.NewSource(14))
	zs := longs(r)
	for range 300 {
		if f := longForm(r, zs); errorOfReduce(f) == api.OK {
			check(definite(t, f))
		}
	}
}

// divisor returns the greatest common divisor of the coefficients.
func divisor(f api.Form) api.Int {
	g := new(big.Int).GCD(nil, nil, toBig(f.A), toBig(f.B))
	return fromBig(g.GCD(nil, nil, g, toBig(f.C)))
}

// P8.5: equivalent forms have the same discriminant, and the same greatest common divisor of their coefficients; also those that are not definite.
func TestInvariants(t *testing.T) {
	r := rand.New(rand.NewSource(15))
	zs := longs(r)
	check := func(f, g api.Form) {
		if !same(quadratic.Disc(f), quadratic.Disc(g)) || !same(divisor(f), divisor(g)) || quadratic.Primitive(f) != quadratic.Primitive(g) {
			t.Errorf("%s and %s", show(f), show(g))
		}
	}
	visit := func(f api.Form) {
		check(f, quadratic.Apply(f, moves(r, 5, 9)))
		g, _, e := quadratic.Reduce(f)
		if e != api.OK {
			return
		}
		check(f, g)
		if h, e := quadratic.Inverse(f); e == api.OK {
			check(f, h)
		} else {
			t.Errorf("Inverse%s: error %d", show(f), e)
		}
	}
	boxed(5, visit)
	for range 500 {
		f, k := longForm(r, zs), pick(r, zs)
		visit(f)
		visit(bigForm(mul(toBig(f.A), k), mul(toBig(f.B), k), mul(toBig(f.C), k)))
	}
}

// P8.6: the principal form has its discriminant, represents 1, and is its own inverse.
func TestPrincipalForms(t *testing.T) {
	check := func(d *big.Int) {
		f, e := quadratic.Principal(fromBig(d))
		if e != api.OK {
			return
		}
		if quadratic.Check(f) != api.OK || !same(quadratic.Disc(f), fromBig(d)) || !same(quadratic.Value(f, num(1), num(0)), num(1)) || !quadratic.Primitive(f) {
			t.Errorf("the principal form of %v is %s", d, show(f))
		}
		if d.Sign() > 0 {
			return
		}
		if g, e := quadratic.Inverse(f); e != api.OK || !sameForm(f, g) || !quadratic.Reduced(f) {
			t.Errorf("the inverse of %s is %s, %d", show(f), show(g), e)
		}
	}
	found := 0
	for d := int64(-400); d <= 400; d++ {
		if _, e := quadratic.Principal(num(d)); (e == api.OK) != (d&3 < 2 && !isSquare(big.NewInt(d))) {
			t.Errorf("Principal(%d): error %d", d, e)
		} else if e == api.OK {
			found++
		}
		check(big.NewInt(d))
	}
	if found != 401-21 { // without 0 and the 20 other squares
		t.Errorf("%d numbers from -400 to 400 have principal forms", found)
	}
	r := rand.New(rand.NewSource(16))
	for _, z := range longs(r) {
		for k := int64(0); k < 4; k++ {
			check(add(z, big.NewInt(k)))
		}
	}
}

// P8.6: the inverse of the inverse is the reduced form; the inverse depends on the class only, and has the same values.
func TestInverses(t *testing.T) {
	r := rand.New(rand.NewSource(17))
	invert := func(f api.Form) api.Form {
		g, e := quadratic.Inverse(f)
		if e != api.OK {
			t.Fatalf("Inverse%s: error %d", show(f), e)
		}
		return g
	}
	check := func(f api.Form) {
		g := invert(f)
		if !quadratic.Reduced(g) || !sameForm(invert(g), definite(t, f)) {
			t.Errorf("the inverse of %s is %s, and that of this is %s", show(f), show(g), show(invert(g)))
		}
		if h := invert(quadratic.Apply(f, moves(r, 4, 6))); !sameForm(g, h) {
			t.Errorf("the inverses of %s and of a form of its class are %s and %s", show(f), show(g), show(h))
		}
		if h := definite(t, quadratic.Apply(f, mat(0, 1, 1, 0))); !sameForm(g, h) { // the determinant is -1
			t.Errorf("the inverse of %s is %s, not %s", show(f), show(g), show(h))
		}
	}
	boxed(6, func(f api.Form) {
		if errorOfReduce(f) == api.OK {
			check(f)
		}
	})
	zs := longs(r)
	for range 300 {
		if f := longForm(r, zs); errorOfReduce(f) == api.OK {
			check(f)
		}
	}
}

// P8.7: forms that are not right, and those with positive discriminants, are not reduced.
func TestRefusal(t *testing.T) {
	r := rand.New(rand.NewSource(18))
	refused := map[api.Errno]int{}
	check := func(f api.Form) {
		want := errorOfReduce(f)
		if want == api.OK {
			return
		}
		refused[want]++
		isError(t, quadratic.Check(f), errorOf(f), "Check", show(f))
		if g, m, e := quadratic.Reduce(f); e != want || !sameForm(g, api.Form{}) || !sameMat(m, api.Mat{}) {
			t.Errorf("Reduce%s = %s, %s, %d", show(f), show(g), showMat(m), e)
		}
		if g, e := quadratic.Inverse(f); e != want || !sameForm(g, api.Form{}) {
			t.Errorf("Inverse%s = %s, %d", show(f), show(g), e)
		}
		if quadratic.Reduced(f) {
			t.Errorf("%s is called reduced", show(f))
		}
		for _, g := range []api.Form{f, form(1, 0, 1), form(2, 1, 3)} {
			checkSame(t, f, g, false)
			checkSame(t, g, f, false)
		}
	}
	boxed(7, check)
	zs := longs(r)
	for range 1500 {
		f := longForm(r, zs)
		check(f)
		check(bigForm(neg(toBig(f.A)), toBig(f.B), neg(toBig(f.C))))
	}
	for _, f := range longReduced(r, 70) {
		check(bigForm(neg(toBig(f.A)), toBig(f.B), neg(toBig(f.C))))
	}
	for _, a := range strange() {
		for _, b := range append(strange(), num(0), num(1), num(2)) {
			for _, c := range append(strange(), num(0), num(3), num(7)) {
				check(api.Form{A: a, B: b, C: c})
				check(api.Form{A: c, B: a, C: b})
				check(api.Form{A: b, B: c, C: a})
			}
		}
	}
	if refused[api.ErrArg] < 500 || refused[api.ErrDisc] < 500 {
		t.Errorf("refused are %v", refused)
	}
}
