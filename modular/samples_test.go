package modular_test

import (
	"math/big"
	"math/rand"
	"slices"
	"testing"

	"algorist/api"
)

// toBig and fromBig read and write the words themselves, so that the tests do not rest on lower layers.
func toBig(a api.Int) *big.Int {
	z := new(big.Int)
	for i, w := range a.Mag {
		z.Or(z, new(big.Int).Lsh(big.NewInt(int64(w)), uint(32*i)))
	}
	if a.Neg {
		z.Neg(z)
	}
	return z
}

func fromBig(z *big.Int) api.Int {
	a := api.Int{Neg: z.Sign() < 0}
	for rest := new(big.Int).Abs(z); rest.Sign() > 0; rest.Rsh(rest, 32) {
		a.Mag = append(a.Mag, uint32(new(big.Int).And(rest, big.NewInt(1<<32-1)).Uint64()))
	}
	return a
}

// num returns a small number.
func num(n int64) api.Int { return fromBig(big.NewInt(n)) }

func same(a, b api.Int) bool { return a.Neg == b.Neg && slices.Equal(a.Mag, b.Mag) }

func isZero(a api.Int) bool { return same(a, api.Int{}) }

// expect checks that a result is OK, and the canonical value of a number.
func expect(t *testing.T, got api.Int, e api.Errno, want *big.Int, what ...any) {
	t.Helper()
	if e != api.OK || !same(got, fromBig(want)) {
		t.Errorf("%v: got %v and error %d, want %v", what, got, e, want)
	}
}

// refused checks that a result is an error, and otherwise zero.
func refused(t *testing.T, got api.Int, e, want api.Errno, what ...any) {
	t.Helper()
	if e != want || !isZero(got) {
		t.Errorf("%v: got %v and error %d, want error %d", what, got, e, want)
	}
}

// power returns m 2^n + d.
func power(m int64, n uint, d int64) *big.Int {
	z := new(big.Int).Lsh(big.NewInt(m), n)
	return z.Add(z, big.NewInt(d))
}

// samples returns small numbers, numbers around powers of two, multiples of powers of two, and numbers of random words; each also with the other sign.
func samples() []*big.Int {
	zs := []*big.Int{new(big.Int)}
	add := func(z *big.Int) { zs = append(zs, z, new(big.Int).Neg(z)) }
	for _, n := range []int64{1, 2, 3, 4, 5, 6, 7, 8, 9, 12, 15, 30, 97, 360, 65537} {
		add(big.NewInt(n))
	}
	for _, n := range []uint{31, 32, 62, 63, 64, 65, 96} {
		for d := int64(-1); d <= 1; d++ {
			add(power(1, n, d))
		}
		add(power(3, n, 0))
		add(power(7, n, 0))
	}
	r := rand.New(rand.NewSource(3))
	for n := 1; n <= 6; n++ {
		add(words(r, n))
		add(new(big.Int).Lsh(words(r, n), uint(r.Intn(70))))
	}
	add(words(r, 20))
	return zs
}

// few returns fewer samples, for laws of three numbers.
func few() []*big.Int {
	var zs []*big.Int
	for i, z := range samples() {
		if i%5 == 0 || i < 8 {
			zs = append(zs, z)
		}
	}
	return zs
}

// words returns a positive number of at most so many words.
func words(r *rand.Rand, n int) *big.Int {
	z := new(big.Int)
	for range n {
		z.Lsh(z, 32)
		z.Or(z, big.NewInt(int64(r.Uint32())))
	}
	return z.Add(z, big.NewInt(1))
}

// greatPrimes returns primes of all residues modulo 8, some of them with many factors 2 in p - 1.
func greatPrimes(t *testing.T) []*big.Int {
	t.Helper()
	ps := []*big.Int{
		big.NewInt(65537), power(1, 31, -1), power(1, 61, -1), power(1, 89, -1), power(1, 127, -1), power(1, 255, -19), power(1, 521, -1),
		power(3, 30, 1), power(3, 189, 1), power(3, 534, 1), power(5, 127, 1),
	}
	r := rand.New(rand.NewSource(4))
	for n := 1; n <= 5; n++ {
		p := words(r, n)
		for !p.ProbablyPrime(20) {
			p.Add(p, big.NewInt(1))
		}
		ps = append(ps, p)
	}
	for _, p := range ps {
		if !p.ProbablyPrime(20) {
			t.Fatalf("%v is no prime", p)
		}
	}
	return ps
}

// smallPrimes returns the primes below n.
func smallPrimes(n int64) []int64 {
	var ps []int64
	for p := int64(2); p < n; p++ {
		if big.NewInt(p).ProbablyPrime(0) {
			ps = append(ps, p)
		}
	}
	return ps
}

// oddPrimes returns great and small ones.
func oddPrimes(t *testing.T) []*big.Int {
	t.Helper()
	ps := greatPrimes(t)
	for _, p := range smallPrimes(120)[1:] {
		ps = append(ps, big.NewInt(p))
	}
	return ps
}
