package prime_test

import (
	"math/big"
	"math/rand"
	"testing"

	"algorist/api"
	"algorist/prime"
)

func isPrime(t *testing.T, n *big.Int) bool {
	t.Helper()
	is, e := prime.Is(fromBig(n))
	if e != api.OK {
		t.Errorf("Is(%v): error %d", n, e)
	}
	return is
}

func small(t *testing.T, n int) []int {
	t.Helper()
	ps, e := prime.Small(n)
	if e != api.OK {
		t.Fatalf("Small(%d): error %d", n, e)
	}
	return ps
}

// P4.2: the small primes are exactly the numbers that no smaller one of them divides.
func TestSieve(t *testing.T) {
	const n = 30000
	i, ps := 0, small(t, n)
	for m := 2; m <= n; m++ {
		divided := false
		for _, p := range ps {
			if p >= m || divided {
				break
			}
			divided = m%p == 0
		}
		listed := i < len(ps) && ps[i] == m
		if listed == divided {
			t.Fatalf("%d: listed is %v, divided is %v", m, listed, divided)
		}
		if listed {
			i++
		}
	}
	if i != len(ps) {
		t.Errorf("%d numbers too many", len(ps)-i)
	}
}

// P4.3: Is agrees with Small.
func TestAgreement(t *testing.T) {
	const n = 1 << 18
	ps := small(t, n)
	for m := range n {
		listed := len(ps) > 0 && ps[0] == m
		if listed {
			ps = ps[1:]
		}
		if is, e := prime.Is(num(int64(m))); is != listed || e != api.OK {
			t.Fatalf("Is(%d) = %v, %d", m, is, e)
		}
	}
}

// P4.3: products of two numbers greater than 1 are not prime.
func TestProducts(t *testing.T) {
	r := rand.New(rand.NewSource(9))
	for range 20000 {
		shift := 1 + r.Intn(30)
		a, b := 2+r.Int63()>>(30+shift), 2+r.Int63()>>(62-shift)
		if z := mul(big.NewInt(a), big.NewInt(b)); z.BitLen() <= 64 && isPrime(t, z) {
			t.Errorf("%d * %d is prime", a, b)
		}
	}
	for _, p := range middlePrimes(t) {
		for _, q := range middlePrimes(t) {
			if z := mul(p, q); z.BitLen() <= 64 && isPrime(t, z) {
				t.Errorf("%v * %v is prime", p, q)
			}
		}
	}
	for _, n := range deceivers(t) {
		if isPrime(t, n) {
			t.Errorf("%v is prime", n)
		}
	}
}

// P4.4: a prime is a strong probable prime to each base.
func TestPrimesAreStrong(t *testing.T) {
	ps := append(middlePrimes(t), longPrimes(t)...)
	for _, p := range small(t, 400)[1:] {
		ps = append(ps, big.NewInt(int64(p)))
	}
	r := rand.New(rand.NewSource(10))
	for _, p := range ps {
		for b := 1; b <= 60; b++ {
			for _, base := range []int{b, int(r.Int63() | 1)} {
				if is, e := prime.Strong(fromBig(p), base); !is || e != api.OK {
					t.Errorf("Strong(%v, %d) = %v, %d", p, base, is, e)
				}
			}
		}
		if p.Cmp(big.NewInt(9)) <= 0 {
			continue
		}
		if b, e := prime.Witness(fromBig(p)); b != 0 || e != api.ErrNone {
			t.Errorf("Witness(%v) = %d, %d", p, b, e)
		}
	}
}

// P4.4: a composite number below 2^64 has a witness, which is one, and no smaller number is one.
func TestCompositesHaveWitnesses(t *testing.T) {
	zs := deceivers(t)[1:] // not 9
	r := rand.New(rand.NewSource(11))
	for range 3000 {
		zs = append(zs, new(big.Int).SetUint64(r.Uint64()>>r.Intn(58)|1))
	}
	for n := int64(11); n < 6000; n += 2 {
		zs = append(zs, big.NewInt(n))
	}
	for _, z := range zs {
		if z.Cmp(big.NewInt(9)) <= 0 || isPrime(t, z) {
			continue
		}
		w, e := prime.Witness(fromBig(z))
		if e != api.OK || w < 2 || w > 200 {
			t.Errorf("Witness(%v) = %d, %d", z, w, e)
		}
		for b := 1; b <= w; b++ {
			if is, e := prime.Strong(fromBig(z), b); is != (b < w) || e != api.OK {
				t.Errorf("Strong(%v, %d) = %v, %d, but the least witness is %d", z, b, is, e, w)
			}
		}
	}
}

// P4.5: between a number and the next prime there is no prime.
func TestNoPrimeBetween(t *testing.T) {
	zs := samples()
	r := rand.New(rand.NewSource(12))
	for range 300 {
		zs = append(zs, big.NewInt(r.Int63()>>r.Intn(60)))
	}
	for _, n := range zs {
		x, e := prime.Next(fromBig(n))
		if n.Sign() > 0 && n.BitLen() > 63 {
			continue
		}
		next := toBig(x)
		if e != api.OK || next.Cmp(n) <= 0 || !isPrime(t, next) {
			t.Errorf("Next(%v) = %v, %d", n, next, e)
			continue
		}
		m := plus(n, 1)
		if m.Sign() < 0 {
			m = new(big.Int)
		}
		for ; m.Cmp(next) < 0; m = plus(m, 1) {
			if isPrime(t, m) {
				t.Errorf("%v is between %v and %v", m, n, next)
			}
		}
	}
}

// P4.5: the primes in order, from each one to the next, are those of Small.
func TestNextAndSmall(t *testing.T) {
	p := api.Int{}
	for _, want := range small(t, 1<<15) {
		next, e := prime.Next(p)
		if e != api.OK || !same(next, num(int64(want))) {
			t.Fatalf("Next(%v) = %v, %d, want %d", p, next, e, want)
		}
		p = next
	}
}

// P4.6: for a prime p, b^p is b modulo p.
func TestFermat(t *testing.T) {
	var ps []*big.Int
	for _, p := range small(t, 600) {
		ps = append(ps, big.NewInt(int64(p)))
	}
	r := rand.New(rand.NewSource(13))
	for range 60 {
		p, e := prime.Next(num(r.Int63() >> r.Intn(60)))
		if e != api.OK {
			t.Fatalf("Next: error %d", e)
		}
		ps = append(ps, toBig(p))
	}
	for _, p := range ps {
		if !isPrime(t, p) {
			t.Errorf("%v is not prime", p)
		}
		for b := int64(0); b < 120; b++ {
			base := big.NewInt(b)
			if x := new(big.Int).Exp(base, p, p); x.Cmp(new(big.Int).Mod(base, p)) != 0 {
				t.Errorf("%d to the power of %v is %v", b, p, x)
			}
		}
	}
}
