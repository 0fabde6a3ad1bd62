package modular_test

// P3.1: each function does what C1 to C6 say, compared with math/big, with the definitions, and with the examples of the chapter.

import (
	"math"
	"math/big"
	"math/rand"
	"slices"
	"testing"

	"algorist/api"
	"algorist/modular"
)

func TestMod(t *testing.T) {
	for _, a := range samples() {
		for _, m := range samples() {
			r, e := modular.Mod(fromBig(a), fromBig(m))
			if m.Sign() <= 0 {
				refused(t, r, e, api.ErrArg, "Mod", a, m)
				continue
			}
			expect(t, r, e, new(big.Int).Mod(a, m), "Mod", a, m)
		}
	}
	for _, c := range [][3]int64{{7, 3, 1}, {-7, 3, 2}, {6, 3, 0}, {-6, 3, 0}, {2, 3, 2}, {0, 5, 0}, {5, 1, 0}, {-1, 1, 0}, {0, 1, 0}} {
		r, e := modular.Mod(num(c[0]), num(c[1]))
		expect(t, r, e, big.NewInt(c[2]), "Mod", c)
	}
}

// inverse returns what Inv has to return.
func inverse(a, m *big.Int) (*big.Int, api.Errno) {
	if m.Sign() <= 0 {
		return nil, api.ErrArg
	}
	r := new(big.Int).Mod(a, m)
	if new(big.Int).GCD(nil, nil, r, m).Cmp(big.NewInt(1)) != 0 {
		return nil, api.ErrZero
	}
	x := new(big.Int)
	if m.Cmp(big.NewInt(1)) > 0 {
		x.ModInverse(r, m)
	}
	return x, api.OK
}

func TestInv(t *testing.T) {
	for _, a := range samples() {
		for _, m := range samples() {
			x, e := modular.Inv(fromBig(a), fromBig(m))
			if want, no := inverse(a, m); no != api.OK {
				refused(t, x, e, no, "Inv", a, m)
			} else {
				expect(t, x, e, want, "Inv", a, m)
			}
		}
	}
	for _, c := range [][3]int64{{3, 7, 5}, {-3, 7, 2}, {10, 7, 5}, {1, 2, 1}, {0, 1, 0}, {5, 1, 0}, {-5, 1, 0}, {1, 9, 1}, {-1, 9, 8}} {
		x, e := modular.Inv(num(c[0]), num(c[1]))
		expect(t, x, e, big.NewInt(c[2]), "Inv", c)
	}
	for _, c := range [][2]int64{{0, 2}, {0, 7}, {7, 7}, {6, 9}, {-6, 9}, {2, 4}} {
		x, e := modular.Inv(num(c[0]), num(c[1]))
		refused(t, x, e, api.ErrZero, "Inv", c)
	}
}

func TestPow(t *testing.T) {
	for _, a := range few() {
		for _, n := range few() {
			for _, m := range few() {
				checkPow(t, a, n, m)
			}
		}
	}
	for _, c := range [][4]int64{{2, -1, 9, 5}, {2, 10, 1000, 24}, {-2, 3, 7, 6}, {0, 0, 5, 1}, {0, 0, 1, 0}, {5, 0, 5, 1}, {0, 3, 5, 0}, {3, -1, 1, 0}, {0, -4, 1, 0}, {3, -2, 7, 4}, {9, 0, 3, 1}} {
		x, e := modular.Pow(num(c[0]), num(c[1]), num(c[2]))
		expect(t, x, e, big.NewInt(c[3]), "Pow", c)
	}
	for _, c := range [][3]int64{{2, -1, 4}, {0, -1, 2}, {6, -5, 9}, {7, -2, 7}} {
		x, e := modular.Pow(num(c[0]), num(c[1]), num(c[2]))
		refused(t, x, e, api.ErrZero, "Pow", c)
	}
	x, e := modular.Pow(num(2), num(-1), num(0))
	refused(t, x, e, api.ErrArg, "Pow(2, -1, 0)")
}

func checkPow(t *testing.T, a, n, m *big.Int) {
	t.Helper()
	x, e := modular.Pow(fromBig(a), fromBig(n), fromBig(m))
	base, no := a, api.OK
	switch {
	case m.Sign() <= 0:
		no = api.ErrArg
	case n.Sign() < 0:
		base, no = inverse(a, m)
	}
	if no != api.OK {
		refused(t, x, e, no, "Pow", a, n, m)
		return
	}
	want := new(big.Int).Exp(new(big.Int).Mod(base, m), new(big.Int).Abs(n), m)
	expect(t, x, e, want.Mod(want, m), "Pow", a, n, m)
}

// symbol follows the definition of (a/n), for small numbers.
func symbol(a, n int64) int {
	if n == 0 {
		if a == 1 || a == -1 {
			return 1
		}
		return 0
	}
	s := 1
	if n < 0 {
		n = -n
		if a < 0 {
			s = -1
		}
	}
	for p := int64(2); n > 1; p++ {
		for ; n%p == 0; n /= p {
			s *= symbolOfPrime(a, p)
		}
	}
	return s
}

func symbolOfPrime(a, p int64) int {
	r := (a%p + p) % p
	if r == 0 {
		return 0
	}
	if p == 2 {
		if r = (a%8 + 8) % 8; r == 1 || r == 7 {
			return 1
		}
		return -1
	}
	for x := int64(1); x < p; x++ {
		if x*x%p == r {
			return 1
		}
	}
	return -1
}

// greatSymbol takes the symbols of odd positive numbers from math/big.
func greatSymbol(a, n *big.Int) int {
	switch {
	case n.Sign() == 0 && a.CmpAbs(one) == 0:
		return 1
	case n.Sign() == 0 || a.Bit(0) == 0 && n.Bit(0) == 0:
		return 0
	}
	s, odd := 1, new(big.Int).Abs(n)
	if n.Sign() < 0 && a.Sign() < 0 {
		s = -1
	}
	for ; odd.Bit(0) == 0; odd.Rsh(odd, 1) {
		s *= symbolOfPrime(new(big.Int).Mod(a, big.NewInt(8)).Int64(), 2)
	}
	return s * big.Jacobi(a, odd)
}

func TestKronecker(t *testing.T) {
	for a := int64(-130); a <= 130; a++ {
		for n := int64(-130); n <= 130; n++ {
			if got := modular.Kronecker(num(a), num(n)); got != symbol(a, n) {
				t.Errorf("(%d/%d) is %d", a, n, got)
			}
		}
	}
	for _, a := range samples() {
		for _, n := range samples() {
			if got := modular.Kronecker(fromBig(a), fromBig(n)); got != greatSymbol(a, n) {
				t.Errorf("(%v/%v) is %d", a, n, got)
			}
		}
	}
	for _, c := range [][3]int64{{2, 7, 1}, {2, 3, -1}, {-1, -1, -1}, {5, 0, 0}, {1, 0, 1}, {-1, 0, 1}, {0, 0, 0}, {0, 1, 1}, {0, -1, 1}, {-7, 1, 1}, {0, 2, 0}, {3, 2, -1}, {7, 2, 1}, {-1, 2, 1}, {-3, 2, -1}, {3, -2, -1}, {-3, -2, 1}} {
		if got := modular.Kronecker(num(c[0]), num(c[1])); int64(got) != c[2] {
			t.Errorf("(%d/%d) is %d", c[0], c[1], got)
		}
	}
}

// Long numbers with long runs of zeros, and random ones with a common divisor or none.
func TestKroneckerOfLongNumbers(t *testing.T) {
	r := rand.New(rand.NewSource(5))
	for range 60 {
		a, n := words(r, 1+r.Intn(150)), words(r, 1+r.Intn(150))
		a.Lsh(a, uint(r.Intn(200)))
		if r.Intn(2) == 0 {
			n.Lsh(n, uint(r.Intn(200)))
		}
		if r.Intn(4) == 0 {
			common := words(r, 3)
			a.Mul(a, common)
			n.Mul(n, common)
		}
		for _, x := range []*big.Int{a, new(big.Int).Neg(a)} {
			for _, y := range []*big.Int{n, new(big.Int).Neg(n)} {
				if got := modular.Kronecker(fromBig(x), fromBig(y)); got != greatSymbol(x, y) {
					t.Errorf("(%v/%v) is %d", x, y, got)
				}
			}
		}
	}
}

func TestSqrt(t *testing.T) {
	for _, p := range smallPrimes(200) {
		for a := -p - 1; a <= 2*p+1; a++ {
			x, e := modular.Sqrt(num(a), num(p))
			want := leastRoot(a, p)
			if want < 0 {
				refused(t, x, e, api.ErrNone, "Sqrt", a, p)
			} else {
				expect(t, x, e, big.NewInt(want), "Sqrt", a, p)
			}
		}
	}
	for _, p := range greatPrimes(t) {
		for _, a := range few() {
			x, e := modular.Sqrt(fromBig(a), fromBig(p))
			want := new(big.Int).ModSqrt(new(big.Int).Mod(a, p), p)
			if want == nil {
				refused(t, x, e, api.ErrNone, "Sqrt", a, p)
				continue
			}
			if other := new(big.Int).Sub(p, want); want.Sign() > 0 && other.Cmp(want) < 0 {
				want = other
			}
			expect(t, x, e, want, "Sqrt", a, p)
		}
	}
	for _, p := range []int64{1, 0, -1, -2, -7, math.MinInt64} {
		for _, a := range []int64{0, 1, 2, -1} {
			x, e := modular.Sqrt(num(a), num(p))
			refused(t, x, e, api.ErrArg, "Sqrt", a, p)
		}
	}
	x, e := modular.Sqrt(num(2), num(7))
	expect(t, x, e, big.NewInt(3), "Sqrt(2, 7)")
}

// leastRoot returns -1 if there is no root.
func leastRoot(a, p int64) int64 {
	for x := int64(0); x < p; x++ {
		if (x*x-a)%p == 0 {
			return x
		}
	}
	return -1
}

func TestRoots(t *testing.T) {
	for p := int64(2); p <= 40; p++ { // also those that are no primes
		for k, m := 1, p; m <= 1300; k, m = k+1, m*p {
			for a := -m; a <= m; a += 1 + m/97 {
				checkRoots(t, a, p, k, m)
			}
			for _, a := range []int64{0, 1, -1, 4, 9, p, p * p, m - 1, m - p, 1 << 40, -1 << 40} {
				checkRoots(t, a, p, k, m)
			}
		}
	}
	for _, c := range []struct {
		p int64
		k int
	}{{2, 20}, {2, 19}, {3, 12}, {4, 10}, {1024, 2}, {101, 3}, {1009, 2}, {1 << 20, 1}, {1<<20 - 1, 1}, {1<<20 - 3, 1}, {720720, 1}} {
		m := int64(math.Pow(float64(c.p), float64(c.k)))
		for _, a := range []int64{0, 1, 17, m - 1, m / c.p, c.p * c.p} {
			checkRoots(t, a, c.p, c.k, m)
		}
	}
	as, e := modular.Roots(num(1), num(2), 3)
	if e != api.OK || !slices.EqualFunc(as, []int64{1, 3, 5, 7}, func(a api.Int, n int64) bool { return same(a, num(n)) }) {
		t.Errorf("Roots(1, 2, 3) = %v, %d", as, e)
	}
}

// checkRoots tries all residues modulo m = p^k.
func checkRoots(t *testing.T, a, p int64, k int, m int64) {
	t.Helper()
	got, e := modular.Roots(num(a), num(p), k)
	r := (a%m + m) % m
	var want []int64
	for x := int64(0); x < m; x++ {
		if x*x%m == r {
			want = append(want, x)
		}
	}
	if e != api.OK || !slices.EqualFunc(got, want, func(a api.Int, n int64) bool { return same(a, num(n)) }) {
		t.Errorf("Roots(%d, %d, %d): %v and error %d, want %v", a, p, k, got, e, want)
	}
}

func TestRootsErrors(t *testing.T) {
	great := power(1, 64, 0)
	for _, c := range []struct {
		p    *big.Int
		k    int
		want api.Errno
	}{
		{big.NewInt(1), 1, api.ErrArg}, {big.NewInt(0), 1, api.ErrArg}, {big.NewInt(-2), 1, api.ErrArg}, {new(big.Int).Neg(great), 1, api.ErrArg},
		{big.NewInt(2), 0, api.ErrArg}, {big.NewInt(2), -1, api.ErrArg}, {big.NewInt(2), math.MinInt, api.ErrArg}, {great, 0, api.ErrArg}, {big.NewInt(1), math.MaxInt, api.ErrArg},
		{big.NewInt(2), 21, api.ErrBig}, {big.NewInt(2), 64, api.ErrBig}, {big.NewInt(2), math.MaxInt, api.ErrBig}, {big.NewInt(1<<20 + 1), 1, api.ErrBig},
		{big.NewInt(1025), 2, api.ErrBig}, {big.NewInt(3), 13, api.ErrBig}, {big.NewInt(1 << 32), 2, api.ErrBig}, {great, 1, api.ErrBig}, {power(1, 64, 2), 1, api.ErrBig}, {big.NewInt(math.MaxInt64), 3, api.ErrBig},
	} {
		if as, e := modular.Roots(num(1), fromBig(c.p), c.k); e != c.want || len(as) > 0 {
			t.Errorf("Roots(1, %v, %d) = %v, %d", c.p, c.k, as, e)
		}
	}
}

func TestCrt(t *testing.T) {
	for m1 := int64(1); m1 <= 12; m1++ {
		for m2 := int64(1); m2 <= 12; m2++ {
			for r1 := -m1; r1 <= 2*m1; r1++ {
				for r2 := -m2; r2 <= 2*m2; r2++ {
					checkCrt(t, r1, m1, r2, m2)
				}
			}
		}
	}
	for _, c := range [][6]int64{{2, 3, 3, 4, 11, 12}, {0, 1, 0, 1, 0, 1}, {5, 1, 7, 9, 7, 9}, {1, 4, 3, 6, 9, 12}, {-1, 4, -1, 6, 11, 12}} {
		r, m, e := modular.Crt(num(c[0]), num(c[1]), num(c[2]), num(c[3]))
		expect(t, r, e, big.NewInt(c[4]), "Crt", c)
		expect(t, m, e, big.NewInt(c[5]), "Crt", c)
	}
	for _, c := range [][4]int64{{0, 0, 0, 1}, {0, 1, 0, 0}, {0, -3, 0, 4}, {0, 3, 0, -4}, {0, 4, 1, 0}, {0, 0, 0, 0}} {
		r, m, e := modular.Crt(num(c[0]), num(c[1]), num(c[2]), num(c[3]))
		refused(t, r, e, api.ErrArg, "Crt", c)
		refused(t, m, e, api.ErrArg, "Crt", c)
	}
	r, m, e := modular.Crt(num(0), num(4), num(1), num(6))
	refused(t, r, e, api.ErrNone, "Crt(0, 4, 1, 6)")
	refused(t, m, e, api.ErrNone, "Crt(0, 4, 1, 6)")
}

// checkCrt tries all residues modulo m1 m2.
func checkCrt(t *testing.T, r1, m1, r2, m2 int64) {
	t.Helper()
	r, m, e := modular.Crt(num(r1), num(m1), num(r2), num(m2))
	for x := range m1 * m2 {
		if (x-r1)%m1 == 0 && (x-r2)%m2 == 0 {
			lcm := m1 * m2 / new(big.Int).GCD(nil, nil, big.NewInt(m1), big.NewInt(m2)).Int64()
			expect(t, r, e, big.NewInt(x), "Crt", r1, m1, r2, m2)
			expect(t, m, e, big.NewInt(lcm), "Crt", r1, m1, r2, m2)
			return
		}
	}
	refused(t, r, e, api.ErrNone, "Crt", r1, m1, r2, m2)
	refused(t, m, e, api.ErrNone, "Crt", r1, m1, r2, m2)
}
