package genus_test

// P10.1: each function does what J1 to J4 say, compared with the definitions, with facts that are known, and with the examples of the chapter.

import (
	"math/big"
	"math/rand"
	"slices"
	"testing"

	"algorist/api"
	"algorist/genus"
)

func checkCharacters(t *testing.T, d int64, want []int) {
	t.Helper()
	got, e := genus.Characters(num(d))
	if e != api.OK || !slices.Equal(got, want) {
		t.Errorf("the characters of %d are %v, error %d, instead of %v", d, got, e, want)
	}
	n, e := genus.Genera(num(d))
	if e != api.OK || n != 1<<(len(want)-1) {
		t.Errorf("%d has %d genera, error %d, with the characters %v", d, n, e, want)
	}
}

func TestCharacters(t *testing.T) {
	r := rand.New(rand.NewSource(1))
	ds := append(discriminants(-3, -6000), special()...)
	for _, d := range append(ds, random(r, 30)...) {
		checkCharacters(t, d, assigned(d))
	}
}

func TestKnownCharacters(t *testing.T) {
	for _, x := range []struct {
		d    int64
		want []int
	}{
		{-3, []int{3}}, {-4, []int{-4}}, {-7, []int{7}}, {-8, []int{-8}}, {-11, []int{11}}, {-12, []int{3}}, {-15, []int{3, 5}}, {-16, []int{-4}}, {-20, []int{5, -4}}, {-24, []int{3, 8}}, {-27, []int{3}}, {-28, []int{7}},
		{-32, []int{-4, 8}}, {-36, []int{3, -4}}, {-40, []int{5, -8}}, {-44, []int{11}}, {-48, []int{3, -4}}, {-56, []int{7, 8}}, {-60, []int{3, 5}}, {-64, []int{-4, 8}}, {-72, []int{3, -8}}, {-80, []int{5, -4}}, {-84, []int{3, 7, -4}}, {-96, []int{3, -4, 8}},
		{-128, []int{-4, 8}}, {-1260, []int{3, 5, 7}}, {-5460, []int{3, 5, 7, 13, -4}}, {-1 << 22, []int{-4, 8}}, {1 - 1<<22, []int{3, 23, 89, 683}}, {-4084080, []int{3, 5, 7, 11, 13, 17, -4}}, {-3 * 5 * 7 * 11 * 13 * 8 * 32, []int{3, 5, 7, 11, 13, -4, 8}}, {-4194287, []int{4194287}},
	} {
		checkCharacters(t, x.d, x.want)
	}
}

// The number of genera is that of different values of all classes.
func TestGenera(t *testing.T) {
	for _, d := range append(discriminants(-3, -1500), -3299, -5460, -9240, -18480, -27720) {
		var seen [][]int
		for _, f := range classes(d) {
			v := values(f)
			if !slices.ContainsFunc(seen, func(w []int) bool { return slices.Equal(v, w) }) {
				seen = append(seen, v)
			}
		}
		if n, e := genus.Genera(num(d)); e != api.OK || n != len(seen) {
			t.Errorf("Genera(%d) is %d, error %d, but there are %d", d, n, e, len(seen))
		}
	}
}

// mixedDiscriminants returns numbers with each of the errors, beside some that have none.
func mixedDiscriminants() []*big.Int {
	ds := []*big.Int{near(31, 0), near(32, 0), near(64, 0), near(64, 1), near(200, 1), neg(near(31, 0)), neg(near(31, -1)), neg(near(32, 0)), neg(near(32, 23)), neg(near(32, 22)), neg(near(63, 0)), neg(near(63, 20)), neg(near(64, 0)), neg(near(64, 23)), neg(near(64, 21)), neg(near(64, 3)), neg(near(200, 4)), neg(near(200, 2)), neg(near(200, 1))}
	for d := int64(-40); d <= 40; d++ {
		ds = append(ds, big.NewInt(d), big.NewInt(least+d), big.NewInt(-least+d))
	}
	return ds
}

func TestErrorsOfDiscriminants(t *testing.T) {
	seen := map[api.Errno]int{}
	for _, d := range mixedDiscriminants() {
		want := errorOfDiscriminant(d)
		seen[want]++
		characters, e := genus.Characters(fromBig(d))
		isError(t, e, want, "Characters", d)
		n, e := genus.Genera(fromBig(d))
		isError(t, e, want, "Genera", d)
		forms, e := genus.Ambiguous(fromBig(d))
		isError(t, e, want, "Ambiguous", d)
		if none := len(characters) == 0 && n == 0 && len(forms) == 0; none != (want != api.OK) {
			t.Errorf("%v has the characters %v, %d genera, and the ambiguous forms %v", d, characters, n, showAll(forms))
		}
	}
	for _, e := range []api.Errno{api.OK, api.ErrDisc, api.ErrBig} {
		if seen[e] < 20 {
			t.Errorf("only %d discriminants have the error %d", seen[e], e)
		}
	}
}

func checkValues(t *testing.T, f api.Form, want []int) {
	t.Helper()
	got, e := genus.Values(f)
	if e != api.OK || !slices.Equal(got, want) {
		t.Errorf("the values of %s are %v, error %d, instead of %v", show(f), got, e, want)
	}
	is, e := genus.Principal(f)
	if e != api.OK || is == slices.Contains(want, -1) {
		t.Errorf("Principal(%s) is %v, error %d; the values are %v", show(f), is, e, want)
	}
}

// Reduced forms, with their A and C exchanged, and others, whose coefficients have all kinds of divisors in common with the discriminant.
func TestValues(t *testing.T) {
	r := rand.New(rand.NewSource(2))
	for _, d := range append(discriminants(-3, -900), -3299, -5460, -9240, -27720) {
		for _, f := range classes(d) {
			want := values(f)
			for _, g := range []api.Form{f, inverse(f), {A: f.C, B: f.B, C: f.A}, moved(r, f, 1, 2), moved(r, f, 2, 5), moved(r, f, 3, 3)} {
				checkValues(t, g, want)
			}
		}
	}
	boxed(12, func(f api.Form) {
		if errorOf(f) == api.OK {
			checkValues(t, f, values(f))
		}
	})
}

// Great discriminants, and forms with long coefficients.
func TestValuesLong(t *testing.T) {
	r := rand.New(rand.NewSource(3))
	for _, d := range append(special(), random(r, 40)...) {
		fs := classes(d)
		for range 6 {
			f := fs[r.Intn(len(fs))]
			want := values(f)
			checkValues(t, f, want)
			checkValues(t, moved(r, f, 1+r.Intn(6), uint(r.Intn(200))), want)
		}
		checkValues(t, moved(r, principal(d), 3, 2000), values(principal(d)))
	}
}

// All functions return the error of each form, the first one of several.
func TestErrorsOfForms(t *testing.T) {
	seen := map[api.Errno]int{}
	right := form(2, 1, 3)
	check := func(f api.Form) {
		want := errorOf(f)
		seen[want]++
		if want == api.OK {
			return
		}
		v, e := genus.Values(f)
		isError(t, e, want, "Values", show(f))
		is, e := genus.Principal(f)
		isError(t, e, want, "Principal", show(f))
		first, e := genus.Same(f, right)
		isError(t, e, want, "Same", show(f), show(right))
		second, e := genus.Same(right, f)
		isError(t, e, want, "Same", show(right), show(f))
		both, e := genus.Same(f, f)
		isError(t, e, want, "Same", show(f), show(f))
		if len(v) != 0 || is || first || second || both {
			t.Errorf("results for %s: %v, %v, %v, %v, %v", show(f), v, is, first, second, both)
		}
	}
	boxed(5, check)
	for _, f := range wrong() {
		check(f)
		check(multiple(f, 2))
		check(multiple(f, -1))
		check(multiple(f, 1<<12))
	}
	for _, e := range []api.Errno{api.OK, api.ErrArg, api.ErrDisc, api.ErrBig, api.ErrPrim} {
		if seen[e] < 20 {
			t.Errorf("only %d forms have the error %d", seen[e], e)
		}
	}
}

// Forms of the least discriminants that are right, and of the greatest ones that are not.
func TestLeastDiscriminants(t *testing.T) {
	for _, x := range []struct {
		f    api.Form
		want api.Errno
	}{
		{form(1, 0, 1<<20), api.OK}, {form(1, 2, 1<<20+1), api.OK}, {form(1, 0, 1<<20+1), api.ErrBig}, {form(1, 1, 1<<20), api.OK}, {form(1, 1, 1<<20+1), api.ErrBig}, {form(1024, 0, 1024), api.ErrPrim}, {form(1024, 1024, 1280), api.ErrPrim}, {form(2, 0, 1<<19), api.ErrPrim}, {form(2, 0, 1<<19+1), api.ErrBig}, {form(1025, 2, 1023), api.OK}, {form(1025, 0, 1025), api.ErrBig},
	} {
		isError(t, errorOf(x.f), x.want, "the definition for", show(x.f))
		_, e := genus.Values(x.f)
		isError(t, e, x.want, "Values", show(x.f))
		_, e = genus.Principal(x.f)
		isError(t, e, x.want, "Principal", show(x.f))
		_, e = genus.Same(x.f, x.f)
		isError(t, e, x.want, "Same", show(x.f))
	}
}

func checkSame(t *testing.T, f, g api.Form, want bool, wanted api.Errno) {
	t.Helper()
	if got, e := genus.Same(f, g); got != want || e != wanted {
		t.Errorf("Same(%s, %s) is %v, error %d, instead of %v, error %d", show(f), show(g), got, e, want, wanted)
	}
}

func TestSame(t *testing.T) {
	r := rand.New(rand.NewSource(4))
	count := map[bool]int{}
	for _, d := range append(discriminants(-3, -500), -3299, -5460, -4095, -1<<14) {
		fs := classes(d)
		for _, f := range fs {
			v, other := values(f), moved(r, f, 3, 20)
			for _, g := range fs {
				want := slices.Equal(v, values(g))
				count[want]++
				checkSame(t, f, g, want, api.OK)
				checkSame(t, other, g, want, api.OK)
			}
		}
	}
	if count[true] < 1000 || count[false] < 1000 {
		t.Errorf("%d pairs are of the same genus, and %d are not", count[true], count[false])
	}
}

// The error of f comes first, then that of g, then that of different discriminants, also if the values are the same.
func TestSameErrors(t *testing.T) {
	right := []api.Form{form(1, 1, 6), form(2, 1, 3), form(1, 1, 2), form(1, 0, 1), form(1, 0, 4), form(2, 0, 3), form(1, 1, 1), form(1, 1, 7), form(1, 0, 1<<20)}
	for _, f := range append(wrong(), right...) {
		for _, g := range append(wrong(), right...) {
			want := errorOf(f)
			if want == api.OK {
				want = errorOf(g)
			}
			if want == api.OK && discriminant(f).Cmp(discriminant(g)) != 0 {
				want = api.ErrDisc
			}
			checkSame(t, f, g, want == api.OK, want)
		}
	}
}

// Values that are known: those of the four genera of -84, each of which has one class, and of those of -96, -55 and -56.
func TestKnownValues(t *testing.T) {
	for _, x := range []struct {
		f    api.Form
		want []int
	}{
		{form(1, 0, 21), []int{1, 1, 1}}, {form(2, 2, 11), []int{-1, 1, -1}}, {form(3, 0, 7), []int{1, -1, -1}}, {form(5, 4, 5), []int{-1, -1, 1}},
		{form(1, 0, 24), []int{1, 1, 1}}, {form(3, 0, 8), []int{-1, -1, -1}}, {form(4, 4, 7), []int{1, -1, 1}}, {form(5, 2, 5), []int{-1, 1, -1}},
		{form(1, 1, 14), []int{1, 1}}, {form(4, 3, 4), []int{1, 1}}, {form(2, 1, 7), []int{-1, -1}}, {form(2, -1, 7), []int{-1, -1}},
		{form(1, 0, 14), []int{1, 1}}, {form(2, 0, 7), []int{1, 1}}, {form(3, 2, 5), []int{-1, -1}}, {form(3, -2, 5), []int{-1, -1}},
		{form(1, 0, 16), []int{1, 1}}, {form(4, 4, 5), []int{1, -1}}, {form(1, 0, 8), []int{1, 1}}, {form(3, 2, 3), []int{-1, -1}}, {form(1, 0, 10), []int{1, 1}}, {form(2, 0, 5), []int{-1, -1}},
	} {
		if e := errorOf(x.f); e != api.OK {
			t.Fatalf("%s: error %d", show(x.f), e)
		}
		checkValues(t, x.f, x.want)
	}
}

// ambiguous follows the definition.
func ambiguous(d int64) []api.Form {
	return slices.DeleteFunc(classes(d), func(f api.Form) bool { return !sameForm(reduced(inverse(f)), f) })
}

func checkAmbiguous(t *testing.T, d int64, want []api.Form) {
	t.Helper()
	got, e := genus.Ambiguous(num(d))
	if e != api.OK || !sameForms(got, want) {
		t.Errorf("the ambiguous forms of %d are %v, error %d, instead of %v", d, showAll(got), e, showAll(want))
	}
}

func TestAmbiguous(t *testing.T) {
	r := rand.New(rand.NewSource(5))
	ds := append(discriminants(-3, -4000), special()...)
	for _, d := range append(ds, random(r, 30)...) {
		checkAmbiguous(t, d, ambiguous(d))
	}
}

func TestKnownAmbiguous(t *testing.T) {
	for _, x := range []struct {
		d    int64
		want []api.Form
	}{
		{-3, []api.Form{form(1, 1, 1)}}, {-4, []api.Form{form(1, 0, 1)}}, {-7, []api.Form{form(1, 1, 2)}}, {-12, []api.Form{form(1, 0, 3)}}, {-15, []api.Form{form(1, 1, 4), form(2, 1, 2)}}, {-16, []api.Form{form(1, 0, 4)}}, {-27, []api.Form{form(1, 1, 7)}},
		{-35, []api.Form{form(1, 1, 9), form(3, 1, 3)}}, {-39, []api.Form{form(1, 1, 10), form(3, 3, 4)}}, {-32, []api.Form{form(1, 0, 8), form(3, 2, 3)}}, {-48, []api.Form{form(1, 0, 12), form(3, 0, 4)}}, {-64, []api.Form{form(1, 0, 16), form(4, 4, 5)}}, {-75, []api.Form{form(1, 1, 19), form(3, 3, 7)}}, {-100, []api.Form{form(1, 0, 25), form(2, 2, 13)}},
		{-84, []api.Form{form(1, 0, 21), form(2, 2, 11), form(3, 0, 7), form(5, 4, 5)}}, {-96, []api.Form{form(1, 0, 24), form(3, 0, 8), form(4, 4, 7), form(5, 2, 5)}}, {-1 << 22, []api.Form{form(1, 0, 1<<20), form(4, 4, 1<<18+1)}}, {-4194287, []api.Form{form(1, 1, 1048572)}},
	} {
		checkAmbiguous(t, x.d, x.want)
	}
}

// Euler's numbers n: all classes of -4 n are ambiguous, so that each genus has one class.
func TestEulersNumbers(t *testing.T) {
	want := []int64{1, 2, 3, 4, 5, 6, 7, 8, 9, 10, 12, 13, 15, 16, 18, 21, 22, 24, 25, 28, 30, 33, 37, 40, 42, 45, 48, 57, 58, 60, 70, 72, 78, 85, 88, 93, 102, 105, 112, 120, 130, 133, 165, 168, 177, 190, 210, 232, 240, 253, 273, 280, 312, 330, 345, 357, 385, 408, 462, 520, 760, 840, 1320, 1365, 1848}
	var got []int64
	for n := int64(1); n <= 3000; n++ {
		all := len(classes(-4 * n))
		genera, e := genus.Genera(num(-4 * n))
		fs, e2 := genus.Ambiguous(num(-4 * n))
		if e != api.OK || e2 != api.OK || (all == genera) != (all == len(fs)) {
			t.Errorf("%d has %d classes, %d genera, error %d, and %d ambiguous forms, error %d", -4*n, all, genera, e, len(fs), e2)
		}
		if all == genera {
			got = append(got, n)
		}
	}
	if !slices.Equal(got, want) {
		t.Errorf("Euler's numbers are %v", got)
	}
}

func TestExamples(t *testing.T) {
	checkCharacters(t, -23, []int{23})
	checkCharacters(t, -20, []int{5, -4})
	checkCharacters(t, -32, []int{-4, 8})
	checkValues(t, form(1, 0, 5), []int{1, 1})
	checkValues(t, form(2, 2, 3), []int{-1, -1})
	checkSame(t, form(1, 0, 5), form(2, 2, 3), false, api.OK)
	checkSame(t, form(2, 1, 3), form(1, 1, 6), true, api.OK)
	checkAmbiguous(t, -20, []api.Form{form(1, 0, 5), form(2, 2, 3)})
	checkAmbiguous(t, -23, []api.Form{form(1, 1, 6)})
	if n, e := genus.Genera(num(-20)); n != 2 || e != api.OK {
		t.Errorf("Genera(-20) is %d, error %d", n, e)
	}
	if n, e := genus.Genera(num(-23)); n != 1 || e != api.OK {
		t.Errorf("Genera(-23) is %d, error %d", n, e)
	}
}
