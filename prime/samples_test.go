package prime_test

import (
	"math/big"
	"math/rand"
	"slices"
	"testing"

	"algorist/api"
)

var one = big.NewInt(1)

// toBig and fromBig read and write the words themselves, so that the tests do not rest on lower layers.
func toBig(a api.Int) *big.Int {
	z := new(big.Int)
	for i, w := range a.Mag {
		z.Or(z, new(big.Int).Lsh(big.NewInt(int64(w)), uint(32*i)))
	}
	if a.Neg {
		z.Neg(z)
	}
	return z
}

func fromBig(z *big.Int) api.Int {
	a := api.Int{Neg: z.Sign() < 0}
	for rest := new(big.Int).Abs(z); rest.Sign() > 0; rest.Rsh(rest, 32) {
		a.Mag = append(a.Mag, uint32(new(big.Int).And(rest, big.NewInt(1<<32-1)).Uint64()))
	}
	return a
}

// num returns a small number.
func num(n int64) api.Int { return fromBig(big.NewInt(n)) }

func same(a, b api.Int) bool { return a.Neg == b.Neg && slices.Equal(a.Mag, b.Mag) }

func mul(a, b *big.Int) *big.Int { return new(big.Int).Mul(a, b) }

func plus(a *big.Int, d int64) *big.Int { return new(big.Int).Add(a, big.NewInt(d)) }

// power returns m 2^n + d.
func power(m int64, n uint, d int64) *big.Int {
	return plus(new(big.Int).Lsh(big.NewInt(m), n), d)
}

// product returns p (k (p - 1) + 1).
func product(p *big.Int, k int64) *big.Int {
	return mul(p, plus(mul(big.NewInt(k), plus(p, -1)), 1))
}

func parse(t *testing.T, text string) *big.Int {
	t.Helper()
	z, ok := new(big.Int).SetString(text, 10)
	if !ok {
		t.Fatalf("%s is no number", text)
	}
	return z
}

// deceivers returns composite numbers that are strong probable primes to many bases, and others that only resemble primes.
func deceivers(t *testing.T) []*big.Int {
	t.Helper()
	var zs []*big.Int
	for _, text := range []string{
		"9", "15", "25", "49", "91", "121", "341", "561", "1105", "1729", "1849", "1763", "2047", "2821", "4033", "8321", "15841", "52633", "1373653", "25326001", "3215031751", "2152302898747",
		"3474749660383", "341550071728321", "3825123056546413051", "4759123141", "1122004669633", "4294967297", "18446744030759878681", "18446743979220271189",
	} {
		zs = append(zs, parse(t, text))
	}
	return zs
}

// longDeceivers returns products of primes beyond 2^64 whose least witness is greater than 3, with it.
func longDeceivers() map[int]*big.Int {
	return map[int]*big.Int{
		5:  product(big.NewInt(14867434633), 3),
		6:  product(big.NewInt(13583772673), 3),
		7:  product(big.NewInt(12899385181), 4),
		10: product(big.NewInt(11187533881), 2),
		11: product(big.NewInt(19402337701), 2),
		13: product(big.NewInt(10337907901), 2),
		17: product(big.NewInt(9935045821), 2),
	}
}

// arnault returns a product of three primes, found by Arnault, that is a strong probable prime to all bases up to 306.
func arnault(t *testing.T) *big.Int {
	t.Helper()
	p := parse(t, "29674495668685510550154174642905332730771991799853043350995075531276838753171770199594238596428121188033664754218345562493168782883")
	return mul(product(p, 313), plus(mul(big.NewInt(353), plus(p, -1)), 1))
}

// longPrimes returns primes beyond 2^64, some of them with many factors 2 in p - 1.
func longPrimes(t *testing.T) []*big.Int {
	t.Helper()
	ps := []*big.Int{power(1, 64, 13), power(1, 89, -1), power(1, 127, -1), power(1, 255, -19), power(3, 189, 1), power(5, 127, 1)}
	r := rand.New(rand.NewSource(6))
	for n := 3; n <= 6; n++ {
		p := words(r, n)
		for !p.ProbablyPrime(20) || p.BitLen() <= 64 {
			p.Add(p, one)
		}
		ps = append(ps, p)
	}
	for _, p := range ps {
		if !p.ProbablyPrime(20) {
			t.Fatalf("%v is no prime", p)
		}
	}
	return ps
}

// middlePrimes returns primes below 2^64, the greatest one among them.
func middlePrimes(t *testing.T) []*big.Int {
	t.Helper()
	ps := []*big.Int{power(1, 13, -1), power(1, 16, 1), power(1, 31, -1), power(1, 32, -5), power(1, 32, 15), power(3, 30, 1), power(1, 61, -1), power(1, 63, -25), power(1, 63, 29), power(1, 64, -59)}
	r := rand.New(rand.NewSource(7))
	for range 20 {
		p := big.NewInt(r.Int63() >> r.Intn(50))
		for !p.ProbablyPrime(20) {
			p.Add(p, one)
		}
		ps = append(ps, p)
	}
	for _, p := range ps {
		if !p.ProbablyPrime(20) {
			t.Fatalf("%v is no prime", p)
		}
	}
	return ps
}

// words returns a positive number of at most so many words.
func words(r *rand.Rand, n int) *big.Int {
	z := new(big.Int)
	for range n {
		z.Lsh(z, 32)
		z.Or(z, big.NewInt(int64(r.Uint32())))
	}
	return plus(z, 1)
}

// samples returns small numbers, numbers around powers of two, and numbers of random words; each also with the other sign.
func samples() []*big.Int {
	zs := []*big.Int{new(big.Int)}
	add := func(z *big.Int) { zs = append(zs, z, new(big.Int).Neg(z)) }
	for n := int64(1); n <= 60; n++ {
		add(big.NewInt(n))
	}
	for _, n := range []uint{16, 31, 32, 33, 48, 62, 63, 64, 65, 96} {
		for d := int64(-30); d <= 30; d++ {
			add(power(1, n, d))
		}
	}
	r := rand.New(rand.NewSource(8))
	for n := 1; n <= 6; n++ {
		for range 8 {
			add(words(r, n))
		}
	}
	return zs
}
