package compose_test

import (
	"fmt"
	"math/big"
	"math/rand"
	"slices"
	"testing"

	"algorist/api"
)

// toBig and fromBig read and write the words themselves, so that the tests do not rest on lower layers.
func toBig(a api.Int) *big.Int {
	z := new(big.Int)
	for i, w := range a.Mag {
		z.Or(z, new(big.Int).Lsh(big.NewInt(int64(w)), uint(32*i)))
	}
	if a.Neg {
		z.Neg(z)
	}
	return z
}

func fromBig(z *big.Int) api.Int {
	a := api.Int{Neg: z.Sign() < 0}
	for rest := new(big.Int).Abs(z); rest.Sign() > 0; rest.Rsh(rest, 32) {
		a.Mag = append(a.Mag, uint32(new(big.Int).And(rest, big.NewInt(1<<32-1)).Uint64()))
	}
	return a
}

// num returns a small number.
func num(n int64) api.Int { return fromBig(big.NewInt(n)) }

func same(a, b api.Int) bool { return a.Neg == b.Neg && slices.Equal(a.Mag, b.Mag) }

func canonical(a api.Int) bool { return same(a, fromBig(toBig(a))) }

func sameForm(f, g api.Form) bool { return same(f.A, g.A) && same(f.B, g.B) && same(f.C, g.C) }

func sameForms(l, m []api.Form) bool { return slices.EqualFunc(l, m, sameForm) }

func form(a, b, c int64) api.Form { return api.Form{A: num(a), B: num(b), C: num(c)} }

func bigForm(a, b, c *big.Int) api.Form {
	return api.Form{A: fromBig(a), B: fromBig(b), C: fromBig(c)}
}

// inverse returns the form A, -B, C.
func inverse(f api.Form) api.Form {
	return api.Form{A: f.A, B: fromBig(neg(toBig(f.B))), C: f.C}
}

func show(f api.Form) string { return fmt.Sprintf("(%v, %v, %v)", toBig(f.A), toBig(f.B), toBig(f.C)) }

func add(a, b *big.Int) *big.Int { return new(big.Int).Add(a, b) }

func sub(a, b *big.Int) *big.Int { return new(big.Int).Sub(a, b) }

func mul(a, b *big.Int) *big.Int { return new(big.Int).Mul(a, b) }

func neg(a *big.Int) *big.Int { return new(big.Int).Neg(a) }

func gcd(a, b *big.Int) *big.Int { return new(big.Int).GCD(nil, nil, a, b) }

// near returns 2^n + d.
func near(n uint, d int64) *big.Int {
	return add(new(big.Int).Lsh(big.NewInt(1), n), big.NewInt(d))
}

func isOne(a *big.Int) bool { return a.Cmp(big.NewInt(1)) == 0 }

// discriminant and value follow the definitions.
func discriminant(f api.Form) *big.Int {
	return sub(mul(toBig(f.B), toBig(f.B)), mul(big.NewInt(4), mul(toBig(f.A), toBig(f.C))))
}

func value(f api.Form, x, y *big.Int) *big.Int {
	z := mul(toBig(f.A), mul(x, x))
	z.Add(z, mul(toBig(f.B), mul(x, y)))
	return z.Add(z, mul(toBig(f.C), mul(y, y)))
}

// under returns f(a x + b y, c x + d y), found by its values at (1, 0), (0, 1) and (1, 1).
func under(f api.Form, a, b, c, d *big.Int) api.Form {
	first, last := value(f, a, c), value(f, b, d)
	both := value(f, add(a, b), add(c, d))
	return bigForm(first, sub(sub(both, first), last), last)
}

// moved returns a form that is properly equivalent to f: so many times, x + k y is taken for x, or y + k x for y, with numbers k of so many bits.
func moved(r *rand.Rand, f api.Form, steps int, bits uint) api.Form {
	one, zero := big.NewInt(1), new(big.Int)
	for i := range steps {
		k := sub(new(big.Int).Rand(r, near(bits+1, 0)), near(bits, 0))
		if i%2 == 0 {
			f = under(f, one, k, zero, one)
		} else {
			f = under(f, one, zero, k, one)
		}
	}
	return f
}

func isSquare(z *big.Int) bool {
	if z.Sign() < 0 {
		return false
	}
	s := new(big.Int).Sqrt(z)
	return mul(s, s).Cmp(z) == 0
}

// errorOf follows the definition of the error of a form.
func errorOf(f api.Form) api.Errno {
	if !canonical(f.A) || !canonical(f.B) || !canonical(f.C) {
		return api.ErrArg
	}
	d := discriminant(f)
	switch {
	case isSquare(d):
		return api.ErrDisc
	case d.Sign() < 0 && toBig(f.A).Sign() <= 0:
		return api.ErrArg
	case d.Sign() > 0:
		return api.ErrDisc
	case !isOne(gcd(gcd(toBig(f.A), toBig(f.B)), toBig(f.C))):
		return api.ErrPrim
	}
	return api.OK
}

// isReduced follows the definition for suitable forms.
func isReduced(f api.Form) bool {
	a, b, c := toBig(f.A), toBig(f.B), toBig(f.C)
	edge := b.CmpAbs(a) == 0 || a.Cmp(c) == 0
	return b.CmpAbs(a) <= 0 && a.Cmp(c) <= 0 && !(edge && b.Sign() < 0)
}

// reduced returns the reduced form of the class of a suitable form: B is made small, then A and C are exchanged.
func reduced(f api.Form) api.Form {
	one, zero := big.NewInt(1), new(big.Int)
	for {
		a, b := toBig(f.A), toBig(f.B)
		k := new(big.Int).Div(sub(a, b), add(a, a))
		f = under(f, one, k, zero, one)
		if isReduced(f) {
			return f
		}
		f = under(f, zero, big.NewInt(-1), one, zero)
	}
}

// principal returns the principal form of a negative discriminant.
func principal(d *big.Int) api.Form {
	q, rest := new(big.Int).DivMod(d, big.NewInt(4), new(big.Int))
	return bigForm(big.NewInt(1), rest, neg(q))
}

// product returns the reduced form of the product of two classes. It does not use the formula of the definition: g is replaced by a form of its class whose A is coprime to that of f; so e is 1, and B is found by two congruences.
func product(f, g api.Form) api.Form {
	g = coprime(g, toBig(f.A))
	a1, b1, a2, b2 := toBig(f.A), toBig(f.B), toBig(g.A), toBig(g.B)
	k := new(big.Int)
	if !isOne(a2) {
		k.ModInverse(a1, a2)
	}
	k.Mul(k, new(big.Int).Rsh(sub(b2, b1), 1))
	k.Mod(k, a2)
	b := add(b1, mul(add(a1, a1), k))
	a := mul(a1, a2)
	c, rest := new(big.Int).DivMod(sub(mul(b, b), discriminant(f)), mul(big.NewInt(4), a), new(big.Int))
	if rest.Sign() != 0 || sub(b, b2).Bit(0) != 0 {
		panic("no product of " + show(f) + " and " + show(g))
	}
	return reduced(bigForm(a, b, c))
}

// coprime returns a form of the class of a primitive form whose A is coprime to n, and positive.
func coprime(f api.Form, n *big.Int) api.Form {
	for x := int64(0); ; x++ {
		for y := int64(0); y <= x; y++ {
			for _, p := range [][2]int64{{x, y}, {y, x}, {x, -y}, {-y, x}} {
				u, v := big.NewInt(p[0]), big.NewInt(p[1])
				if s, t := new(big.Int), new(big.Int); isOne(new(big.Int).GCD(s, t, u, v)) && isOne(gcd(value(f, u, v), n)) {
					return under(f, u, neg(t), v, s)
				}
			}
		}
	}
}

// power returns the reduced form of the n-th power by n products, or -n of the inverse.
func power(f api.Form, n int) api.Form {
	if n < 0 {
		f, n = inverse(f), -n
	}
	z := principal(discriminant(f))
	for range n {
		z = product(z, f)
	}
	return z
}

// order returns the least n of at least 1 for which the n-th power is principal.
func order(f api.Form) int {
	one := principal(discriminant(f))
	n := 1
	for x := reduced(f); !sameForm(x, one); n++ {
		x = product(x, f)
	}
	return n
}

// boxed calls a function with all forms whose coefficients are at most so great.
func boxed(n int64, visit func(f api.Form)) {
	for a := -n; a <= n; a++ {
		for b := -n; b <= n; b++ {
			for c := -n; c <= n; c++ {
				visit(form(a, b, c))
			}
		}
	}
}

// forms returns all suitable forms of a negative discriminant with A up to a number, and B from -A + 1 to A.
func forms(d, most int64) []api.Form {
	var fs []api.Form
	for a := int64(1); a <= most; a++ {
		for b := 1 - a; b <= a; b++ {
			if (b*b-d)%(4*a) != 0 {
				continue
			}
			if f := form(a, b, (b*b-d)/(4*a)); errorOf(f) == api.OK {
				fs = append(fs, f)
			}
		}
	}
	return fs
}

// classes returns all reduced suitable forms of a negative discriminant: their A is at most the square root of -d.
func classes(d int64) []api.Form {
	root := int64(1)
	for root*root <= -d {
		root++
	}
	return slices.DeleteFunc(forms(d, root), func(f api.Form) bool { return !isReduced(f) })
}

// discriminants returns the negative ones down to a number.
func discriminants(least int64) []int64 {
	var ds []int64
	for d := int64(-3); d >= least; d-- {
		if d&3 == 0 || d&3 == 1 {
			ds = append(ds, d)
		}
	}
	return ds
}

// pattern returns a number of so many words, many of which are extreme.
func pattern(r *rand.Rand, words int) *big.Int {
	extreme := []uint32{0, 1, 1<<31 - 1, 1 << 31, 1<<32 - 2, 1<<32 - 1}
	z := new(big.Int)
	for range words {
		w := r.Uint32()
		if k := r.Intn(2 * len(extreme)); k < len(extreme) {
			w = extreme[k]
		}
		z.Lsh(z, 32)
		z.Or(z, new(big.Int).SetUint64(uint64(w)))
	}
	return z
}

// related returns suitable forms of one discriminant b^2 - 4 n, where n is a product of small and of long numbers, and A of each form is one of its divisors: so they have divisors in common with one another, and many of them with B.
func related(r *rand.Rand, words int) []api.Form {
	parts := []*big.Int{big.NewInt(2), big.NewInt(4), big.NewInt(3), big.NewInt(9), big.NewInt(int64(r.Intn(30) + 1)), add(pattern(r, words), big.NewInt(1)), add(pattern(r, words), big.NewInt(1))}
	b := sub(new(big.Int).Rand(r, near(uint(16*words), 0)), near(uint(16*words-1), 0))
	if r.Intn(2) == 0 {
		b.Mul(b, big.NewInt(6))
	}
	var fs []api.Form
	for len(fs) < 24 {
		a, c := big.NewInt(1), big.NewInt(1)
		for _, p := range parts {
			if r.Intn(2) == 0 {
				a.Mul(a, p)
			} else {
				c.Mul(c, p)
			}
		}
		for _, f := range []api.Form{bigForm(a, b, c), bigForm(c, neg(b), a)} {
			if errorOf(f) == api.OK {
				fs = append(fs, f)
			}
		}
	}
	return fs
}

// doubling returns the form 2, 1, 2^(n - 1), whose class has the order n: its powers 2^k, 1, 2^(n - k) are reduced up to k = n/2, and the n-th one represents 1.
func doubling(n uint) api.Form {
	return bigForm(big.NewInt(2), big.NewInt(1), near(n-1, 0))
}

// strange has words that stand for no canonical integers.
func strange() []api.Int {
	return []api.Int{{Neg: true}, {Mag: []uint32{0}}, {Neg: true, Mag: []uint32{0, 0}}, {Mag: []uint32{1, 0}}, {Neg: true, Mag: []uint32{2, 0}}, {Neg: true, Mag: []uint32{23, 0}}, {Mag: []uint32{6, 0, 0}}, {Mag: []uint32{0, 1, 0}}}
}

// unsuitable returns forms with each of the errors that forms can have.
func unsuitable() []api.Form {
	fs := []api.Form{{}, form(1, 2, 1), form(0, 3, 5), form(1, 0, -4), form(1, 0, -2), form(-1, 0, 2), form(2, 0, -4), form(-1, 0, -1), form(-2, 1, -3), form(-2, 0, -2), form(2, 2, 2), form(2, 4, 6), form(3, 0, 3), form(4, 2, 6)}
	for _, a := range strange() {
		fs = append(fs, api.Form{A: a, B: num(1), C: num(3)}, api.Form{A: num(2), B: a, C: num(3)}, api.Form{A: num(2), B: num(1), C: a})
	}
	return fs
}

// isResult checks that a result is a form that is expected.
func isResult(t *testing.T, got api.Form, e api.Errno, want api.Form, wanted api.Errno, what ...any) {
	t.Helper()
	if e != wanted || !sameForm(got, want) {
		t.Errorf("%v is %s, error %d, instead of %s, error %d", what, show(got), e, show(want), wanted)
	}
}
