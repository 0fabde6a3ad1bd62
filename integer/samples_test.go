package integer_test

import (
	"math/big"
	"math/rand"
	"slices"
	"testing"

	"algorist/api"
	"algorist/integer"
)

// toBig and fromBig read and write the words themselves, so that the tests do not rest on what they test.
func toBig(a api.Int) *big.Int {
	z := new(big.Int)
	for i, w := range a.Mag {
		z.Or(z, new(big.Int).Lsh(big.NewInt(int64(w)), uint(32*i)))
	}
	if a.Neg {
		z.Neg(z)
	}
	return z
}

func fromBig(z *big.Int) api.Int {
	a := api.Int{Neg: z.Sign() < 0}
	for rest := new(big.Int).Abs(z); rest.Sign() > 0; rest.Rsh(rest, 32) {
		a.Mag = append(a.Mag, uint32(new(big.Int).And(rest, big.NewInt(1<<32-1)).Uint64()))
	}
	return a
}

func canonical(a api.Int) bool {
	if len(a.Mag) == 0 {
		return !a.Neg
	}
	return a.Mag[len(a.Mag)-1] != 0
}

func isZero(a api.Int) bool { return !a.Neg && len(a.Mag) == 0 }

func same(a, b api.Int) bool { return a.Neg == b.Neg && slices.Equal(a.Mag, b.Mag) }

// expect checks that a result is the canonical value of a number.
func expect(t *testing.T, got api.Int, want *big.Int, what ...any) {
	t.Helper()
	if !canonical(got) || toBig(got).Cmp(want) != 0 {
		t.Errorf("%v: got %v, want %v", what, got, want)
	}
}

func number(t *testing.T, s string) *big.Int {
	t.Helper()
	z, ok := new(big.Int).SetString(s, 10)
	if !ok {
		t.Fatalf("no number: %q", s)
	}
	return z
}

// power returns 2^n + d.
func power(n uint, d int64) *big.Int {
	z := new(big.Int).Lsh(big.NewInt(1), n)
	return z.Add(z, big.NewInt(d))
}

// samples returns small numbers, numbers around powers of two, and numbers whose words are likely to make carries and wrong guesses; each also with the other sign.
func samples() []*big.Int {
	zs := []*big.Int{new(big.Int)}
	add := func(z *big.Int) { zs = append(zs, z, new(big.Int).Neg(z)) }
	for _, n := range []int64{1, 2, 3, 5, 7, 10, 12, 18, 1000, 999999999, 1000000000, 1<<61 - 1} {
		add(big.NewInt(n))
	}
	for _, n := range []uint{16, 31, 32, 33, 63, 64, 65, 96, 128, 4096} {
		for d := int64(-1); d <= 1; d++ {
			add(power(n, d))
		}
	}
	r := rand.New(rand.NewSource(1))
	for n := 1; n <= 9; n++ {
		for range 4 {
			add(pattern(r, n))
		}
	}
	add(pattern(r, 40))
	add(pattern(r, 150))
	return zs
}

// pattern returns a number of at most so many words, many of which are extreme.
func pattern(r *rand.Rand, words int) *big.Int {
	extreme := []uint32{0, 1, 1<<31 - 1, 1 << 31, 1<<32 - 2, 1<<32 - 1}
	z := new(big.Int)
	for range words {
		w := r.Uint32()
		if k := r.Intn(2 * len(extreme)); k < len(extreme) {
			w = extreme[k]
		}
		z.Lsh(z, 32)
		z.Or(z, new(big.Int).SetUint64(uint64(w)))
	}
	return z
}

// ints returns the samples as integers of the program.
func ints() []api.Int {
	var as []api.Int
	for _, z := range samples() {
		as = append(as, fromBig(z))
	}
	return as
}

// few returns fewer samples, for laws of three numbers.
func few() []api.Int {
	var as []api.Int
	for i, a := range ints() {
		if i%5 == 0 || i < 6 {
			as = append(as, a)
		}
	}
	return as
}

func divMod(t *testing.T, a, b api.Int) (api.Int, api.Int) {
	t.Helper()
	q, r, e := integer.DivMod(a, b)
	if e != api.OK {
		t.Fatalf("DivMod(%v, %v): error %d", a, b, e)
	}
	return q, r
}
