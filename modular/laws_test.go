package modular_test

import (
	"math/big"
	"testing"

	"algorist/api"
	"algorist/modular"
)

var one = big.NewInt(1)

func mod(a, m *big.Int) *big.Int { return new(big.Int).Mod(a, m) }

func mul(a, b *big.Int) *big.Int { return new(big.Int).Mul(a, b) }

func gcd(a, b *big.Int) *big.Int {
	return new(big.Int).GCD(nil, nil, new(big.Int).Abs(a), new(big.Int).Abs(b))
}

func kronecker(a, n *big.Int) int { return modular.Kronecker(fromBig(a), fromBig(n)) }

func isResidue(a, m *big.Int) bool { return a.Sign() >= 0 && a.Cmp(m) < 0 }

// pow returns a power modulo m, and whether there is one.
func pow(t *testing.T, a, n, m *big.Int) (*big.Int, bool) {
	t.Helper()
	x, e := modular.Pow(fromBig(a), fromBig(n), fromBig(m))
	if e == api.ErrZero && n.Sign() < 0 {
		return nil, false
	}
	if e != api.OK || !isResidue(toBig(x), m) {
		t.Errorf("Pow(%v, %v, %v) = %v, %d", a, n, m, x, e)
	}
	return toBig(x), true
}

// P3.2: a Inv(a) is 1, and there is an inverse unless there is a common divisor.
func TestInverses(t *testing.T) {
	for _, m := range samples() {
		if m.Sign() <= 0 {
			continue
		}
		for _, a := range samples() {
			x, e := modular.Inv(fromBig(a), fromBig(m))
			if coprime := gcd(a, m).Cmp(one) == 0; coprime != (e == api.OK) {
				t.Errorf("Inv(%v, %v): error %d", a, m, e)
			}
			if e == api.OK && (mod(mul(a, toBig(x)), m).Cmp(mod(one, m)) != 0 || !isResidue(toBig(x), m)) {
				t.Errorf("Inv(%v, %v) = %v", a, m, x)
			}
		}
	}
}

// P3.2: the power of a sum of exponents is the product of the powers; so are powers of products and of powers.
func TestPowers(t *testing.T) {
	exponents := []*big.Int{new(big.Int), one, big.NewInt(-1), big.NewInt(2), big.NewInt(-7), big.NewInt(100), power(1, 70, 5), power(-1, 70, 9)}
	for _, m := range few() {
		if m.Sign() <= 0 {
			continue
		}
		for _, a := range few() {
			for _, n := range exponents {
				x, ok := pow(t, a, n, m)
				for _, k := range exponents {
					y, also := pow(t, a, k, m)
					sum, _ := pow(t, a, new(big.Int).Add(n, k), m)
					if ok && also && sum.Cmp(mod(mul(x, y), m)) != 0 {
						t.Errorf("%v to the power of %v + %v modulo %v", a, n, k, m)
					}
					if !ok {
						continue
					}
					if z, is := pow(t, x, k, m); is {
						product, _ := pow(t, a, mul(n, k), m)
						if z.Cmp(product) != 0 {
							t.Errorf("%v to the power of %v times %v modulo %v", a, n, k, m)
						}
					}
				}
			}
		}
	}
}

// P3.3: the symbol is multiplicative in both arguments, for factors other than 0, and 0 exactly if there is a common divisor.
func TestSymbols(t *testing.T) {
	for _, a := range samples() {
		for _, b := range samples() {
			if s := kronecker(a, b); (s == 0) != (gcd(a, b).Cmp(one) != 0) || s < -1 || s > 1 {
				t.Errorf("(%v/%v) is %d", a, b, s)
			}
		}
	}
	for _, a := range few() {
		for _, b := range few() {
			for _, n := range few() {
				if a.Sign() == 0 || b.Sign() == 0 || n.Sign() == 0 {
					continue
				}
				if kronecker(mul(a, b), n) != kronecker(a, n)*kronecker(b, n) {
					t.Errorf("(%v %v/%v)", a, b, n)
				}
				if kronecker(n, mul(a, b)) != kronecker(n, a)*kronecker(n, b) {
					t.Errorf("(%v/%v %v)", n, a, b)
				}
			}
		}
	}
}

// P3.3: the law of quadratic reciprocity.
func TestReciprocity(t *testing.T) {
	odd := func(a *big.Int) bool { return a.Sign() > 0 && a.Bit(0) == 1 }
	zs := samples()
	for n := int64(1); n < 60; n += 2 {
		zs = append(zs, big.NewInt(n))
	}
	for _, m := range zs {
		for _, n := range zs {
			if !odd(m) || !odd(n) || gcd(m, n).Cmp(one) != 0 {
				continue
			}
			want := 1
			if m.Bit(1) == 1 && n.Bit(1) == 1 {
				want = -1
			}
			if kronecker(m, n)*kronecker(n, m) != want {
				t.Errorf("(%v/%v)(%v/%v)", m, n, n, m)
			}
		}
	}
}

// P3.4: for an odd prime p, the symbol is a to the power of (p - 1)/2.
func TestEuler(t *testing.T) {
	for _, p := range oddPrimes(t) {
		half := new(big.Int).Rsh(p, 1)
		for _, a := range samples() {
			x, _ := pow(t, a, half, p)
			if s := kronecker(a, p); x.Cmp(mod(big.NewInt(int64(s)), p)) != 0 {
				t.Errorf("(%v/%v) is %d, but the power is %v", a, p, s, x)
			}
		}
	}
}

// P3.5: a root is one, the least one, and there is one exactly if the symbol is not -1.
func TestLeastRoots(t *testing.T) {
	for _, p := range oddPrimes(t) {
		for _, a := range few() {
			x, e := modular.Sqrt(fromBig(a), fromBig(p))
			if (e == api.OK) != (kronecker(a, p) != -1) {
				t.Errorf("Sqrt(%v, %v): error %d", a, p, e)
			}
			if e != api.OK {
				continue
			}
			root := toBig(x)
			if mod(mul(root, root), p).Cmp(mod(a, p)) != 0 || !isResidue(root, p) || new(big.Int).Lsh(root, 1).Cmp(p) > 0 {
				t.Errorf("Sqrt(%v, %v) = %v", a, p, root)
			}
			y, e := modular.Sqrt(fromBig(mul(a, a)), fromBig(p))
			if r := mod(a, p); e != api.OK || toBig(y).Cmp(r) != 0 && toBig(y).Cmp(new(big.Int).Sub(p, r)) != 0 {
				t.Errorf("the root of the square of %v modulo %v is %v", a, p, y)
			}
		}
	}
}

// P3.5: Sqrt and Roots agree; each residue is among the roots of its square, and the numbers of roots of all residues add up to the modulus.
func TestAllRoots(t *testing.T) {
	for _, p := range []int64{2, 3, 5, 6, 7, 9, 12, 13, 17, 257} {
		for k, m := 1, p; m <= 300; k, m = k+1, m*p {
			total := 0
			for a := range m {
				as, e := modular.Roots(num(a), num(p), k)
				if e != api.OK {
					t.Fatalf("Roots(%d, %d, %d): error %d", a, p, k, e)
				}
				total += len(as)
				for _, x := range as {
					if root := toBig(x).Int64(); root >= m || root*root%m != a {
						t.Errorf("Roots(%d, %d, %d) has %d", a, p, k, root)
					}
				}
				if !big.NewInt(p).ProbablyPrime(0) || k > 1 {
					continue
				}
				x, e := modular.Sqrt(num(a), num(p))
				if (e == api.OK) != (len(as) > 0) || e == api.OK && !same(x, as[0]) {
					t.Errorf("Sqrt(%d, %d) = %v, but the roots are %v", a, p, x, as)
				}
			}
			if int64(total) != m {
				t.Errorf("%d roots modulo %d^%d", total, p, k)
			}
		}
	}
}

// P3.6: the solution fulfils both congruences, and there is one exactly if the remainders agree modulo the greatest common divisor.
func TestCongruences(t *testing.T) {
	remainders := samples()
	for _, m1 := range few() {
		for _, m2 := range few() {
			if m1.Sign() <= 0 || m2.Sign() <= 0 {
				continue
			}
			g := gcd(m1, m2)
			lcm := mul(new(big.Int).Div(m1, g), m2)
			for i, r1 := range remainders {
				r2 := remainders[(7*i)%len(remainders)]
				checkCongruences(t, r1, m1, r2, m2, g, lcm)
				checkCongruences(t, r1, m1, new(big.Int).Add(r1, mul(g, r2)), m2, g, lcm)
			}
		}
	}
}

func checkCongruences(t *testing.T, r1, m1, r2, m2, g, lcm *big.Int) {
	t.Helper()
	r, m, e := modular.Crt(fromBig(r1), fromBig(m1), fromBig(r2), fromBig(m2))
	if mod(r1, g).Cmp(mod(r2, g)) != 0 {
		refused(t, r, e, api.ErrNone, "Crt", r1, m1, r2, m2)
		refused(t, m, e, api.ErrNone, "Crt", r1, m1, r2, m2)
		return
	}
	x := toBig(r)
	expect(t, m, e, lcm, "Crt", r1, m1, r2, m2)
	if !isResidue(x, lcm) || mod(x, m1).Cmp(mod(r1, m1)) != 0 || mod(x, m2).Cmp(mod(r2, m2)) != 0 {
		t.Errorf("Crt(%v, %v, %v, %v) = %v", r1, m1, r2, m2, x)
	}
}
