package prime_test

// P4.1: each function does what D1 to D5 say, compared with math/big, with the definitions, and with the examples of the chapter.

import (
	"math"
	"math/big"
	"slices"
	"testing"

	"algorist/api"
	"algorist/prime"
)

// hasNoDivisor tells primes by trying all divisors.
func hasNoDivisor(n int) bool {
	for d := 2; d*d <= n; d++ {
		if n%d == 0 {
			return false
		}
	}
	return n >= 2
}

func TestSmall(t *testing.T) {
	var want []int
	for n := -3; n <= 1100; n++ {
		if hasNoDivisor(n) {
			want = append(want, n)
		}
		if got, e := prime.Small(n); e != api.OK || !slices.Equal(got, want) {
			t.Fatalf("Small(%d) = %v, %d", n, got, e)
		}
	}
	for _, n := range []int{1<<20 - 3, 1<<20 - 2, 1 << 20} { // 2^20 - 3 is the greatest prime below 2^20
		if got, e := prime.Small(n); e != api.OK || len(got) != 82025 || got[82024] != 1<<20-3 {
			t.Errorf("Small(%d) has %d primes, and the error %d", n, len(got), e)
		}
	}
	if got, e := prime.Small(10); e != api.OK || !slices.Equal(got, []int{2, 3, 5, 7}) {
		t.Errorf("Small(10) = %v, %d", got, e)
	}
	for _, n := range []int{math.MinInt, -1 << 40, -1} {
		if got, e := prime.Small(n); e != api.OK || len(got) != 0 {
			t.Errorf("Small(%d) = %v, %d", n, got, e)
		}
	}
	for _, n := range []int{1<<20 + 1, 1 << 21, 1 << 40, math.MaxInt} {
		if got, e := prime.Small(n); e != api.ErrBig || len(got) != 0 {
			t.Errorf("Small(%d) = %v, %d", n, got, e)
		}
	}
}

func checkIs(t *testing.T, n *big.Int) {
	t.Helper()
	want, no := n.Sign() > 0 && n.ProbablyPrime(0), api.OK // ProbablyPrime is exact below 2^64
	if n.Sign() > 0 && n.BitLen() > 64 {
		want, no = false, api.ErrBig
	}
	if got, e := prime.Is(fromBig(n)); got != want || e != no {
		t.Errorf("Is(%v) = %v, %d", n, got, e)
	}
}

func TestIs(t *testing.T) {
	for n := int64(-100); n < 3000; n++ {
		checkIs(t, big.NewInt(n))
	}
	zs := append(samples(), deceivers(t)...)
	zs = append(zs, power(1, 61, 1), power(1, 61, -1), power(-1, 61, 1), power(-1, 64, 0), power(-1, 70, 0), power(-1, 4096, 0), power(1, 4096, 1))
	zs = append(zs, middlePrimes(t)...)
	zs = append(zs, longPrimes(t)...)
	for _, z := range zs {
		checkIs(t, z)
	}
	for d := int64(1); d < 400; d++ {
		checkIs(t, power(1, 64, -d))
		checkIs(t, power(1, 63, d-200))
		checkIs(t, power(1, 32, d-200))
	}
}

// strong follows the definition of a strong probable prime.
func strong(n, b *big.Int) bool {
	if new(big.Int).Mod(b, n).Sign() == 0 {
		return true
	}
	minus := plus(n, -1)
	s := minus.TrailingZeroBits()
	d := new(big.Int).Rsh(minus, s)
	if new(big.Int).Exp(b, d, n).Cmp(one) == 0 {
		return true
	}
	for i := range s {
		if new(big.Int).Exp(b, new(big.Int).Lsh(d, i), n).Cmp(minus) == 0 {
			return true
		}
	}
	return false
}

func checkStrong(t *testing.T, n *big.Int, b int) {
	t.Helper()
	got, e := prime.Strong(fromBig(n), b)
	if n.Bit(0) == 0 || n.Cmp(big.NewInt(2)) <= 0 || b < 1 {
		if got || e != api.ErrArg {
			t.Errorf("Strong(%v, %d) = %v, %d", n, b, got, e)
		}
		return
	}
	if want := strong(n, big.NewInt(int64(b))); got != want || e != api.OK {
		t.Errorf("Strong(%v, %d) = %v, %d", n, b, got, e)
	}
}

func TestStrong(t *testing.T) {
	for n := int64(-10); n < 300; n++ {
		for b := -3; b < 400; b++ {
			checkStrong(t, big.NewInt(n), b)
		}
	}
	bases := []int{math.MinInt, -1, 0, 1, 2, 3, 4, 7, 10, 23, 29, 37, 89, 200, 65537, 1 << 32, 1<<61 - 1, math.MaxInt - 1, math.MaxInt}
	zs := append(samples(), deceivers(t)...)
	zs = append(zs, middlePrimes(t)...)
	zs = append(zs, longPrimes(t)...)
	zs = append(zs, arnault(t), power(3, 534, 1), power(1, 64, 1), power(1, 128, 1), power(9, 100, 1))
	for _, n := range longDeceivers() {
		zs = append(zs, n)
	}
	for _, n := range zs {
		for _, b := range bases {
			checkStrong(t, n, b)
		}
	}
	for _, b := range []int{1<<31 - 1, 2 * (1<<31 - 1), 3 * (1<<31 - 1)} {
		checkStrong(t, power(1, 31, -1), b)
	}
	for b, want := range map[int]bool{2: true, 3: false} {
		if got, e := prime.Strong(num(2047), b); got != want || e != api.OK {
			t.Errorf("Strong(2047, %d) = %v, %d", b, got, e)
		}
	}
}

// At the limit of what can be read: a prime of 4096 bits would take as long as this composite number.
func TestStrongOfLongNumbers(t *testing.T) {
	n := power(1, 4096, -1)
	checkStrong(t, n, 2)
	checkStrong(t, n, 3)
	checkStrong(t, power(1, 2203, -1), 5)
}

func TestNext(t *testing.T) {
	zs := append(samples(), deceivers(t)...)
	zs = append(zs, middlePrimes(t)...)
	for n := int64(-10); n < 3000; n++ {
		zs = append(zs, big.NewInt(n))
	}
	for d := int64(0); d < 60; d++ {
		zs = append(zs, power(1, 63, d-50))
	}
	zs = append(zs, power(-1, 63, 0), power(-1, 64, 0), power(-1, 4096, 0), power(1, 4096, 0))
	for _, n := range zs {
		got, e := prime.Next(fromBig(n))
		if n.Sign() > 0 && n.BitLen() > 63 {
			if e != api.ErrBig || !same(got, api.Int{}) {
				t.Errorf("Next(%v) = %v, %d", n, got, e)
			}
			continue
		}
		want := big.NewInt(2)
		if n.Sign() > 0 {
			want = plus(n, 1)
		}
		for !want.ProbablyPrime(0) {
			want.Add(want, one)
		}
		if e != api.OK || !same(got, fromBig(want)) {
			t.Errorf("Next(%v) = %v, %d, want %v", n, got, e, want)
		}
	}
	for n, want := range map[int64]int64{7: 11, -5: 2, 1: 2, 2: 3, 0: 2} {
		if got, e := prime.Next(num(n)); e != api.OK || !same(got, num(want)) {
			t.Errorf("Next(%d) = %v, %d", n, got, e)
		}
	}
}

// checkWitness compares with the definition.
func checkWitness(t *testing.T, n *big.Int) {
	t.Helper()
	got, e := prime.Witness(fromBig(n))
	want, no := 0, api.ErrNone
	if n.Bit(0) == 0 || n.Cmp(big.NewInt(9)) <= 0 {
		no = api.ErrArg
	}
	for b := 2; b <= 200 && no == api.ErrNone; b++ {
		if !strong(n, big.NewInt(int64(b))) {
			want, no = b, api.OK
		}
	}
	if got != want || e != no {
		t.Errorf("Witness(%v) = %d, %d, want %d, %d", n, got, e, want, no)
	}
}

func TestWitness(t *testing.T) {
	for n := int64(-12); n < 1500; n++ {
		checkWitness(t, big.NewInt(n))
	}
	zs := append(deceivers(t), middlePrimes(t)...)
	zs = append(zs, longPrimes(t)...)
	zs = append(zs, power(1, 64, 1), power(1, 64, 3), power(-1, 64, 1), power(1, 64, 0), power(1, 4096, -1), power(1, 4096, 0), power(-1, 4096, 1))
	for _, n := range samples() {
		if n.Sign() >= 0 && !n.ProbablyPrime(0) { // a prime takes 199 bases
			zs = append(zs, n)
		}
	}
	for _, n := range zs {
		checkWitness(t, n)
	}
	for _, c := range []struct {
		n int64
		b int
		e api.Errno
	}{{2047, 3, api.OK}, {15, 2, api.OK}, {11, 0, api.ErrNone}, {9, 0, api.ErrArg}, {10, 0, api.ErrArg}, {199, 0, api.ErrNone}, {211, 0, api.ErrNone}} {
		if b, e := prime.Witness(num(c.n)); b != c.b || e != c.e {
			t.Errorf("Witness(%d) = %d, %d", c.n, b, e)
		}
	}
}

// The least witness of a long number may be a prime or a product, and there may be none though the number is composite.
func TestWitnessOfLongNumbers(t *testing.T) {
	for want, n := range longDeceivers() {
		checkWitness(t, n)
		if b, e := prime.Witness(fromBig(n)); b != want || e != api.OK {
			t.Errorf("Witness(%v) = %d, %d, want %d", n, b, e, want)
		}
	}
	if b, e := prime.Witness(fromBig(arnault(t))); b != 0 || e != api.ErrNone {
		t.Errorf("Witness of Arnault's number is %d, %d", b, e)
	}
}
