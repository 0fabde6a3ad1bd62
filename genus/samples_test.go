package genus_test

import (
	"fmt"
	"math/big"
	"math/rand"
	"slices"
	"testing"

	"algorist/api"
)

// toBig and fromBig read and write the words themselves, so that the tests do not rest on lower layers.
func toBig(a api.Int) *big.Int {
	z := new(big.Int)
	for i, w := range a.Mag {
		z.Or(z, new(big.Int).Lsh(big.NewInt(int64(w)), uint(32*i)))
	}
	if a.Neg {
		z.Neg(z)
	}
	return z
}

func fromBig(z *big.Int) api.Int {
	a := api.Int{Neg: z.Sign() < 0}
	for rest := new(big.Int).Abs(z); rest.Sign() > 0; rest.Rsh(rest, 32) {
		a.Mag = append(a.Mag, uint32(new(big.Int).And(rest, big.NewInt(1<<32-1)).Uint64()))
	}
	return a
}

// num returns a small number.
func num(n int64) api.Int { return fromBig(big.NewInt(n)) }

func same(a, b api.Int) bool { return a.Neg == b.Neg && slices.Equal(a.Mag, b.Mag) }

func canonical(a api.Int) bool { return same(a, fromBig(toBig(a))) }

func sameForm(f, g api.Form) bool { return same(f.A, g.A) && same(f.B, g.B) && same(f.C, g.C) }

func sameForms(l, m []api.Form) bool { return slices.EqualFunc(l, m, sameForm) }

func form(a, b, c int64) api.Form { return api.Form{A: num(a), B: num(b), C: num(c)} }

func bigForm(a, b, c *big.Int) api.Form {
	return api.Form{A: fromBig(a), B: fromBig(b), C: fromBig(c)}
}

// inverse returns the form A, -B, C.
func inverse(f api.Form) api.Form {
	return api.Form{A: f.A, B: fromBig(neg(toBig(f.B))), C: f.C}
}

// multiple returns n times a form.
func multiple(f api.Form, n int64) api.Form {
	k := big.NewInt(n)
	return bigForm(mul(k, toBig(f.A)), mul(k, toBig(f.B)), mul(k, toBig(f.C)))
}

func show(f api.Form) string { return fmt.Sprintf("(%v, %v, %v)", toBig(f.A), toBig(f.B), toBig(f.C)) }

func showAll(l []api.Form) []string {
	var texts []string
	for _, f := range l {
		texts = append(texts, show(f))
	}
	return texts
}

func add(a, b *big.Int) *big.Int { return new(big.Int).Add(a, b) }

func sub(a, b *big.Int) *big.Int { return new(big.Int).Sub(a, b) }

func mul(a, b *big.Int) *big.Int { return new(big.Int).Mul(a, b) }

func neg(a *big.Int) *big.Int { return new(big.Int).Neg(a) }

func gcd(a, b *big.Int) *big.Int { return new(big.Int).GCD(nil, nil, a, b) }

func isOne(a *big.Int) bool { return a.Cmp(big.NewInt(1)) == 0 }

// near returns 2^n + d.
func near(n uint, d int64) *big.Int {
	return add(new(big.Int).Lsh(big.NewInt(1), n), big.NewInt(d))
}

// rest returns the remainder of n modulo m, which is not negative.
func rest(n *big.Int, m int64) int64 { return new(big.Int).Mod(n, big.NewInt(m)).Int64() }

// discriminant and value follow the definitions.
func discriminant(f api.Form) *big.Int {
	return sub(mul(toBig(f.B), toBig(f.B)), mul(big.NewInt(4), mul(toBig(f.A), toBig(f.C))))
}

func value(f api.Form, x, y *big.Int) *big.Int {
	z := mul(toBig(f.A), mul(x, x))
	z.Add(z, mul(toBig(f.B), mul(x, y)))
	return z.Add(z, mul(toBig(f.C), mul(y, y)))
}

// under returns f(a x + b y, c x + d y), found by its values at (1, 0), (0, 1) and (1, 1).
func under(f api.Form, a, b, c, d *big.Int) api.Form {
	first, last := value(f, a, c), value(f, b, d)
	both := value(f, add(a, b), add(c, d))
	return bigForm(first, sub(sub(both, first), last), last)
}

// moved returns a form that is properly equivalent to f: so many times, x + k y is taken for x, or y + k x for y, with numbers k of so many bits.
func moved(r *rand.Rand, f api.Form, steps int, bits uint) api.Form {
	one, zero := big.NewInt(1), new(big.Int)
	for i := range steps {
		k := sub(new(big.Int).Rand(r, near(bits+1, 0)), near(bits, 0))
		if i%2 == 0 {
			f = under(f, one, k, zero, one)
		} else {
			f = under(f, one, zero, k, one)
		}
	}
	return f
}

const least = -1 << 22

// errorOfDiscriminant follows the definition.
func errorOfDiscriminant(d *big.Int) api.Errno {
	switch {
	case d.Sign() >= 0 || rest(d, 4) > 1:
		return api.ErrDisc
	case d.Cmp(big.NewInt(least)) < 0:
		return api.ErrBig
	}
	return api.OK
}

// errorOf follows the definition of the error of a form.
func errorOf(f api.Form) api.Errno {
	if !canonical(f.A) || !canonical(f.B) || !canonical(f.C) {
		return api.ErrArg
	}
	d := discriminant(f)
	switch {
	case isSquare(d):
		return api.ErrDisc
	case d.Sign() < 0 && toBig(f.A).Sign() <= 0:
		return api.ErrArg
	case d.Sign() > 0:
		return api.ErrDisc
	case d.Cmp(big.NewInt(least)) < 0:
		return api.ErrBig
	case !isOne(gcd(gcd(toBig(f.A), toBig(f.B)), toBig(f.C))):
		return api.ErrPrim
	}
	return api.OK
}

func isSquare(z *big.Int) bool {
	if z.Sign() < 0 {
		return false
	}
	s := new(big.Int).Sqrt(z)
	return mul(s, s).Cmp(z) == 0
}

// isReduced follows the definition for right forms.
func isReduced(f api.Form) bool {
	a, b, c := toBig(f.A), toBig(f.B), toBig(f.C)
	edge := b.CmpAbs(a) == 0 || a.Cmp(c) == 0
	return b.CmpAbs(a) <= 0 && a.Cmp(c) <= 0 && !(edge && b.Sign() < 0)
}

// reduced returns the reduced form of the class of a right form: B is made small, then A and C are exchanged.
func reduced(f api.Form) api.Form {
	one, zero := big.NewInt(1), new(big.Int)
	for {
		a, b := toBig(f.A), toBig(f.B)
		k := new(big.Int).Div(sub(a, b), add(a, a))
		f = under(f, one, k, zero, one)
		if isReduced(f) {
			return f
		}
		f = under(f, zero, big.NewInt(-1), one, zero)
	}
}

// principal returns the principal form of a negative discriminant.
func principal(d int64) api.Form {
	r := d & 3
	return form(1, r, (r-d)/4)
}

// classes returns all reduced primitive forms of a right discriminant, sorted by A, B and C.
func classes(d int64) []api.Form {
	var fs []api.Form
	for a := int64(1); 3*a*a <= -d; a++ {
		for b := -a; b <= a; b++ {
			if (b*b-d)%(4*a) != 0 {
				continue
			}
			if f := form(a, b, (b*b-d)/(4*a)); errorOf(f) == api.OK && isReduced(f) {
				fs = append(fs, f)
			}
		}
	}
	return fs
}

// assigned follows the definition of the assigned characters.
func assigned(d int64) []int {
	var l []int
	for p := int64(3); p <= -d; p += 2 {
		if d%p == 0 && big.NewInt(p).ProbablyPrime(0) {
			l = append(l, int(p))
		}
	}
	m := -d / 4
	switch {
	case d%4 != 0:
	case m%4 == 1 || m%8 == 4:
		l = append(l, -4)
	case m%8 == 2:
		l = append(l, -8)
	case m%8 == 6:
		l = append(l, 8)
	case m%8 == 0:
		l = append(l, -4, 8)
	}
	return l
}

// symbol follows the definition of the character with the number k, for an integer that is coprime to 2 and to k.
func symbol(k int, n *big.Int) int {
	r := int64(0)
	switch k {
	case -4:
		return sign(rest(n, 4) == 1)
	case 8:
		r = rest(n, 8)
		return sign(r == 1 || r == 7)
	case -8:
		r = rest(n, 8)
		return sign(r == 1 || r == 3)
	}
	return big.Jacobi(n, big.NewInt(int64(k)))
}

// sign returns 1 or -1.
func sign(plus bool) int {
	if plus {
		return 1
	}
	return -1
}

// at returns the values of characters at a number.
func at(characters []int, n *big.Int) []int {
	var l []int
	for _, k := range characters {
		l = append(l, symbol(k, n))
	}
	return l
}

// values follows the definition: it finds a number that a right form represents, and that is coprime to twice the discriminant.
func values(f api.Form) []int {
	d := discriminant(f)
	for x := int64(0); ; x++ {
		for y := int64(0); y <= x; y++ {
			for _, n := range []*big.Int{value(f, big.NewInt(x), big.NewInt(y)), value(f, big.NewInt(y), big.NewInt(x))} {
				if n.Bit(0) == 1 && isOne(gcd(n, d)) {
					return at(assigned(d.Int64()), n)
				}
			}
		}
	}
}

// boxed calls a function with all forms whose coefficients are at most so great.
func boxed(n int64, visit func(f api.Form)) {
	for a := -n; a <= n; a++ {
		for b := -n; b <= n; b++ {
			for c := -n; c <= n; c++ {
				visit(form(a, b, c))
			}
		}
	}
}

// discriminants returns the negative ones from a number down to another one.
func discriminants(from, to int64) []int64 {
	var ds []int64
	for d := from; d >= to; d-- {
		if d&3 == 0 || d&3 == 1 {
			ds = append(ds, d)
		}
	}
	return ds
}

// special returns right discriminants, also great ones, that are divisible by squares, by powers of 2, or by many primes.
func special() []int64 {
	ds := []int64{-27, -243, -19683, -1594323, -75, -343, -4 * 3 * 121, -1 << 22, 1 - 1<<22, 4 - 1<<22, -3 * 1021 * 1021, -1021 * 1039, -4194287, -2041 * 2047}
	for k := uint(2); k <= 22; k++ {
		for _, odd := range []int64{1, 3, 5, 7, 9, 15, 21, 45, 105, 1155, 3315, 255255} {
			if odd <= -least>>k {
				ds = append(ds, -odd<<k)
			}
		}
	}
	for _, d := range []int64{-3 * 5 * 7 * 11, -3 * 5 * 7 * 11 * 13, -3 * 5 * 7 * 11 * 13 * 17, -3 * 3 * 5 * 7 * 11 * 13 * 23, -3 * 5 * 7 * 11 * 13 * 17 * 16} {
		if d&3 < 2 {
			ds = append(ds, d)
		}
	}
	return ds
}

// random returns so many right discriminants.
func random(r *rand.Rand, n int) []int64 {
	var ds []int64
	for len(ds) < n {
		if d := -3 - int64(r.Intn(-least-2)); d&3 < 2 {
			ds = append(ds, d)
		}
	}
	return ds
}

// strange has words that stand for no canonical integers.
func strange() []api.Int {
	return []api.Int{{Neg: true}, {Mag: []uint32{0}}, {Neg: true, Mag: []uint32{0, 0}}, {Mag: []uint32{1, 0}}, {Neg: true, Mag: []uint32{4, 0}}, {Neg: true, Mag: []uint32{23, 0}}, {Mag: []uint32{6, 0, 0}}, {Mag: []uint32{0, 1, 0}}, {Neg: true, Mag: []uint32{0, 1, 0}}}
}

// wrong returns forms with each of the errors that forms can have, and with several of them.
func wrong() []api.Form {
	fs := []api.Form{
		{}, form(1, 2, 1), form(0, 3, 5), form(1, 0, -4), form(4, 8, 4), // squares
		form(-1, 0, -1), form(-2, 1, -3), form(-2, 0, -2), form(least, 0, least), // negative
		form(1, 0, -2), form(-1, 0, 2), form(2, 0, -4), form(1, 1, -1), form(2, 0, -1<<40), // positive
		form(1, 0, 1<<20+1), form(1, 1, 1<<20+1), form(1, 1, 1<<40), form(2, 0, 1<<20), form(1024, 0, 1025), form(1<<40, 1<<40, 1<<40), // too great
		form(2, 2, 2), form(2, 4, 6), form(3, 0, 3), form(4, 2, 6), form(1024, 0, 1024), // not primitive
		bigForm(near(70, 0), new(big.Int), near(70, 1)), bigForm(big.NewInt(1), near(64, 0), near(126, 1<<20+1)), bigForm(big.NewInt(-1), near(64, 0), neg(near(126, 1))), bigForm(big.NewInt(1), near(64, 0), near(126, 0)), bigForm(big.NewInt(1), near(64, 0), near(126, -1)),
	}
	for _, a := range strange() {
		fs = append(fs, api.Form{A: a, B: num(1), C: num(3)}, api.Form{A: num(2), B: a, C: num(3)}, api.Form{A: num(2), B: num(1), C: a})
	}
	return fs
}

func isError(t *testing.T, got, want api.Errno, what ...any) {
	t.Helper()
	if got != want {
		t.Errorf("%v: error %d instead of %d", what, got, want)
	}
}
