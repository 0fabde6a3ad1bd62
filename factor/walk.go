package factor

import (
	"algorist/api"
	"algorist/integer"
)

// walk is the sequence 2, 2^2 + c, (2^2 + c)^2 + c, .. modulo n. Modulo a small divisor of n it soon repeats itself, and then the difference of two of its numbers has this divisor (Pollard).
type walk struct{ n, c api.Int }

// walked looks for a divisor of n on walks of so many turns together.
func walked(n api.Int, turns int) (api.Int, bool) {
	for c := int64(1); turns > 0; c++ {
		d, left := walk{n, integer.Of(c)}.find(turns)
		if !isOne(d) && integer.Cmp(d, n) < 0 {
			return d, true
		}
		turns = left
	}
	return api.Int{}, false
}

// find returns the first divisor greater than 1 on the walk, which may be n itself, or 1 if there is none; and how many turns are left.
// Numbers are held against the last one whose place is a power of 2 (Brent).
func (w walk) find(turns int) (api.Int, int) {
	const batch = 100 // a common divisor takes as long as many products
	y := integer.Of(2)
	for length := 1; turns > 0; length *= 2 {
		x := y
		for from := 0; from < length && turns > 0; from += batch {
			count := min(batch, length-from, turns)
			turns -= count
			first := y
			var d api.Int
			if y, d = w.batch(x, first, count); !isOne(d) {
				return w.single(x, first), turns
			}
		}
	}
	return integer.Of(1), 0
}

// single returns the first divisor greater than 1 after y, where there is one. So divisors that a batch has together are separated.
func (w walk) single(x, y api.Int) api.Int {
	d := integer.Of(1)
	for isOne(d) {
		y, d = w.batch(x, y, 1)
	}
	return d
}

// batch goes on from y, and returns the number that it reaches, and the greatest common divisor of n and the product of the differences from x.
func (w walk) batch(x, y api.Int, count int) (api.Int, api.Int) {
	product := integer.Of(1)
	for range count {
		_, y, _ = integer.DivMod(integer.Add(integer.Mul(y, y), w.c), w.n)
		_, product, _ = integer.DivMod(integer.Mul(product, integer.Sub(x, y)), w.n)
	}
	return y, integer.Gcd(product, w.n)
}
