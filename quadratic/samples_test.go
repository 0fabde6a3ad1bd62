package quadratic_test

import (
	"fmt"
	"math/big"
	"math/rand"
	"slices"
	"testing"

	"algorist/api"
)

// toBig and fromBig read and write the words themselves, so that the tests do not rest on lower layers.
func toBig(a api.Int) *big.Int {
	z := new(big.Int)
	for i, w := range a.Mag {
		z.Or(z, new(big.Int).Lsh(big.NewInt(int64(w)), uint(32*i)))
	}
	if a.Neg {
		z.Neg(z)
	}
	return z
}

func fromBig(z *big.Int) api.Int {
	a := api.Int{Neg: z.Sign() < 0}
	for rest := new(big.Int).Abs(z); rest.Sign() > 0; rest.Rsh(rest, 32) {
		a.Mag = append(a.Mag, uint32(new(big.Int).And(rest, big.NewInt(1<<32-1)).Uint64()))
	}
	return a
}

// num returns a small number.
func num(n int64) api.Int { return fromBig(big.NewInt(n)) }

func same(a, b api.Int) bool { return a.Neg == b.Neg && slices.Equal(a.Mag, b.Mag) }

func canonical(a api.Int) bool { return same(a, fromBig(toBig(a))) }

func sameForm(f, g api.Form) bool { return same(f.A, g.A) && same(f.B, g.B) && same(f.C, g.C) }

func sameMat(m, n api.Mat) bool {
	return same(m.A, n.A) && same(m.B, n.B) && same(m.C, n.C) && same(m.D, n.D)
}

func form(a, b, c int64) api.Form { return api.Form{A: num(a), B: num(b), C: num(c)} }

func mat(a, b, c, d int64) api.Mat { return api.Mat{A: num(a), B: num(b), C: num(c), D: num(d)} }

func bigForm(a, b, c *big.Int) api.Form {
	return api.Form{A: fromBig(a), B: fromBig(b), C: fromBig(c)}
}

func show(f api.Form) string { return fmt.Sprintf("(%v, %v, %v)", toBig(f.A), toBig(f.B), toBig(f.C)) }

func showMat(m api.Mat) string {
	return fmt.Sprintf("[%v %v; %v %v]", toBig(m.A), toBig(m.B), toBig(m.C), toBig(m.D))
}

func add(a, b *big.Int) *big.Int { return new(big.Int).Add(a, b) }

func sub(a, b *big.Int) *big.Int { return new(big.Int).Sub(a, b) }

func mul(a, b *big.Int) *big.Int { return new(big.Int).Mul(a, b) }

func neg(a *big.Int) *big.Int { return new(big.Int).Neg(a) }

// near returns 2^n + d.
func near(n uint, d int64) *big.Int {
	return add(new(big.Int).Lsh(big.NewInt(1), n), big.NewInt(d))
}

// discriminant, value, under, determinant and product follow the definitions.
func discriminant(f api.Form) *big.Int {
	return sub(mul(toBig(f.B), toBig(f.B)), mul(big.NewInt(4), mul(toBig(f.A), toBig(f.C))))
}

func value(f api.Form, x, y *big.Int) *big.Int {
	z := mul(toBig(f.A), mul(x, x))
	z.Add(z, mul(toBig(f.B), mul(x, y)))
	return z.Add(z, mul(toBig(f.C), mul(y, y)))
}

// under finds the coefficients of the form under a matrix by its values at (1, 0), (0, 1) and (1, 1).
func under(f api.Form, m api.Mat) api.Form {
	a, b, c, d := toBig(m.A), toBig(m.B), toBig(m.C), toBig(m.D)
	first, last := value(f, a, c), value(f, b, d)
	both := value(f, add(a, b), add(c, d))
	return bigForm(first, sub(sub(both, first), last), last)
}

func determinant(m api.Mat) *big.Int {
	return sub(mul(toBig(m.A), toBig(m.D)), mul(toBig(m.B), toBig(m.C)))
}

func product(m, n api.Mat) api.Mat {
	entry := func(a, b, c, d api.Int) api.Int {
		return fromBig(add(mul(toBig(a), toBig(b)), mul(toBig(c), toBig(d))))
	}
	return api.Mat{A: entry(m.A, n.A, m.B, n.C), B: entry(m.A, n.B, m.B, n.D), C: entry(m.C, n.A, m.D, n.C), D: entry(m.C, n.B, m.D, n.D)}
}

func isSquare(z *big.Int) bool {
	if z.Sign() < 0 {
		return false
	}
	s := new(big.Int).Sqrt(z)
	return mul(s, s).Cmp(z) == 0
}

// errorOf follows the definition of Check.
func errorOf(f api.Form) api.Errno {
	if !canonical(f.A) || !canonical(f.B) || !canonical(f.C) {
		return api.ErrArg
	}
	d := discriminant(f)
	if isSquare(d) {
		return api.ErrDisc
	}
	if d.Sign() < 0 && toBig(f.A).Sign() <= 0 {
		return api.ErrArg
	}
	return api.OK
}

// errorOfReduce follows the definition of the errors of Reduce.
func errorOfReduce(f api.Form) api.Errno {
	e := errorOf(f)
	if e == api.OK && discriminant(f).Sign() > 0 {
		return api.ErrDisc
	}
	return e
}

// reduced follows the definition of reduced forms.
func reduced(f api.Form) bool {
	if errorOfReduce(f) != api.OK {
		return false
	}
	a, b, c := toBig(f.A), toBig(f.B), toBig(f.C)
	edge := b.CmpAbs(a) == 0 || a.Cmp(c) == 0
	return b.CmpAbs(a) <= 0 && a.Cmp(c) <= 0 && !(edge && b.Sign() < 0)
}

// boxed calls a function with all forms whose coefficients are at most so great.
func boxed(n int64, visit func(f api.Form)) {
	for a := -n; a <= n; a++ {
		for b := -n; b <= n; b++ {
			for c := -n; c <= n; c++ {
				visit(form(a, b, c))
			}
		}
	}
}

// allReduced returns all reduced forms of a negative discriminant: A and |B| are at most the square root of -d, and C follows.
func allReduced(d int64) []api.Form {
	var fs []api.Form
	for a := int64(1); a*a <= -d; a++ {
		for b := -a; b <= a; b++ {
			if (b*b-d)%(4*a) != 0 {
				continue
			}
			if f := form(a, b, (b*b-d)/(4*a)); reduced(f) {
				fs = append(fs, f)
			}
		}
	}
	return fs
}

// discriminants returns the negative ones down to a number.
func discriminants(least int64) []int64 {
	var ds []int64
	for d := int64(-3); d >= least; d-- {
		if d&3 == 0 || d&3 == 1 {
			ds = append(ds, d)
		}
	}
	return ds
}

// pattern returns a number of at most so many words, many of which are extreme.
func pattern(r *rand.Rand, words int) *big.Int {
	extreme := []uint32{0, 1, 1<<31 - 1, 1 << 31, 1<<32 - 2, 1<<32 - 1}
	z := new(big.Int)
	for range words {
		w := r.Uint32()
		if k := r.Intn(2 * len(extreme)); k < len(extreme) {
			w = extreme[k]
		}
		z.Lsh(z, 32)
		z.Or(z, new(big.Int).SetUint64(uint64(w)))
	}
	if r.Intn(2) == 0 {
		z.Neg(z)
	}
	return z
}

// longs returns numbers of different lengths, positive, negative, and 0.
func longs(r *rand.Rand) []*big.Int {
	zs := []*big.Int{new(big.Int), big.NewInt(1), big.NewInt(-1), big.NewInt(2), near(31, 0), near(32, -1), neg(near(32, 0)), neg(near(63, -1)), near(64, 1)}
	for _, words := range []int{1, 2, 3, 5, 40} {
		zs = append(zs, pattern(r, words), pattern(r, words))
	}
	return zs
}

func pick(r *rand.Rand, zs []*big.Int) *big.Int { return zs[r.Intn(len(zs))] }

func longForm(r *rand.Rand, zs []*big.Int) api.Form {
	return bigForm(pick(r, zs), pick(r, zs), pick(r, zs))
}

func longMat(r *rand.Rand, zs []*big.Int) api.Mat {
	return api.Mat{A: fromBig(pick(r, zs)), B: fromBig(pick(r, zs)), C: fromBig(pick(r, zs)), D: fromBig(pick(r, zs))}
}

// moves returns a matrix with the determinant 1: a product of so many matrices 1 k; 0 1 and 1 0; k 1 with numbers k of so many bits.
func moves(r *rand.Rand, steps int, bits uint) api.Mat {
	m := mat(1, 0, 0, 1)
	for i := range steps {
		k := fromBig(sub(new(big.Int).Rand(r, near(bits+1, 0)), near(bits, 0)))
		n := api.Mat{A: num(1), B: k, D: num(1)}
		if i%2 == 1 {
			n = api.Mat{A: num(1), C: k, D: num(1)}
		}
		m = product(m, n)
	}
	return m
}

// longReduced returns reduced forms with A and C of at most so many bits, also at the edges: B is 0, 1, A or -A + 1, and C is A, A + 1 or far greater.
func longReduced(r *rand.Rand, bits uint) []api.Form {
	var fs []api.Form
	a := add(new(big.Int).Rand(r, near(bits, 0)), big.NewInt(1))
	random := sub(new(big.Int).Rand(r, add(a, a)), a)
	for _, b := range []*big.Int{new(big.Int), big.NewInt(1), a, sub(a, big.NewInt(1)), sub(big.NewInt(1), a), random} {
		for _, more := range []*big.Int{new(big.Int), big.NewInt(1), new(big.Int).Rand(r, near(bits, 0)), new(big.Int).Rand(r, near(2*bits, 0))} {
			if f := bigForm(a, b, add(a, more)); reduced(f) {
				fs = append(fs, f)
			}
		}
	}
	return fs
}

// equivalent follows the definition of proper equivalence for right forms with small coefficients and negative discriminants: the columns of the matrix are places of the values A and C of g.
func equivalent(f, g api.Form) bool {
	a, b, c := toBig(f.A).Int64(), toBig(f.B).Int64(), toBig(f.C).Int64()
	for _, p := range places(a, b, c, toBig(g.A).Int64()) {
		for _, q := range places(a, b, c, toBig(g.C).Int64()) {
			mixed := 2*a*p[0]*q[0] + b*(p[0]*q[1]+p[1]*q[0]) + 2*c*p[1]*q[1]
			if p[0]*q[1]-p[1]*q[0] == 1 && mixed == toBig(g.B).Int64() {
				return true
			}
		}
	}
	return false
}

// places returns all places where a positive definite form has the value n, by 4 a n = (2 a x + b y)^2 - d y^2, and the same for x.
func places(a, b, c, n int64) [][2]int64 {
	var l [][2]int64
	d := b*b - 4*a*c
	for y := int64(0); -d*y*y <= 4*a*n; y++ {
		for x := int64(0); -d*x*x <= 4*c*n; x++ {
			for _, p := range [][2]int64{{x, y}, {x, -y}, {-x, y}, {-x, -y}} {
				if a*p[0]*p[0]+b*p[0]*p[1]+c*p[1]*p[1] == n && !slices.Contains(l, p) {
					l = append(l, p)
				}
			}
		}
	}
	return l
}

// strange has words that stand for no canonical integers.
func strange() []api.Int {
	return []api.Int{{Neg: true}, {Mag: []uint32{0}}, {Neg: true, Mag: []uint32{0, 0}}, {Mag: []uint32{1, 0}}, {Neg: true, Mag: []uint32{2, 0}}, {Mag: []uint32{6, 0, 0}}, {Mag: []uint32{0, 1, 0}}}
}

func isError(t *testing.T, got, want api.Errno, what ...any) {
	t.Helper()
	if got != want {
		t.Errorf("%v: error %d instead of %d", what, got, want)
	}
}
