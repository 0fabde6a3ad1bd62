package modular

import (
	"algorist/api"
	"algorist/integer"
)

// Sqrt returns the least square root of a modulo a prime p.
func Sqrt(a, p api.Int) (api.Int, api.Errno) {
	if integer.Cmp(p, integer.Of(2)) < 0 {
		return api.Int{}, api.ErrArg
	}
	residue := within(p)
	r := residue(a)
	if integer.Bits(r) <= 1 { // 0 and 1, which are all residues modulo 2
		return r, api.OK
	}
	if Kronecker(r, p) != 1 {
		return api.Int{}, api.ErrNone
	}
	x := someRoot(r, p)
	if integer.Cmp(residue(integer.Mul(x, x)), r) != 0 { // only if p is no prime
		return api.Int{}, api.ErrNone
	}
	if other := integer.Sub(p, x); integer.Cmp(other, x) < 0 {
		return other, api.OK
	}
	return x, api.OK
}

// someRoot returns a square root of r modulo p, or any residue if p is no prime; (r/p) is 1.
func someRoot(r, p api.Int) api.Int {
	quarter, rest, _ := integer.DivMod(p, integer.Of(4))
	if isOne(rest) {
		return lucasRoot(r, p, quarter)
	}
	x, _ := Pow(r, integer.Add(quarter, integer.Of(1)), p) // its square is r, times r to the power of (p - 1)/2
	return x
}

// lucasRoot returns a square root of r modulo p, or any residue if p is no prime; p is 1 modulo 4, quarter is (p - 1)/4, and (r/p) is 1.
// If r t^2 - 4 is no square, then r t^2 is the square of V(quarter), where V(0) = 2, V(1) = r t^2 - 2, and V(k+1) = V(1) V(k) - V(k-1).
// It takes as many steps for each p, unlike a search by powers of 2, which is slow if p - 1 has many factors 2.
func lucasRoot(r, p, quarter api.Int) api.Int {
	if _, rest, _ := integer.Sqrt(p); integer.Sign(rest) == 0 {
		return api.Int{} // all symbols would be 1 or 0, and the search might not end
	}
	residue := within(p)
	var t, first api.Int
search:
	for n := int64(1); ; n++ {
		t = integer.Of(n)
		first = integer.Sub(integer.Mul(r, integer.Mul(t, t)), integer.Of(2))
		switch Kronecker(integer.Sub(first, integer.Of(2)), p) {
		case -1:
			break search
		case 0: // r t^2 is 4, and V(k) is 2 for each k
			quarter = api.Int{}
			break search
		}
	}
	inverse, _ := Inv(t, p)
	return residue(integer.Mul(lucas(first, quarter, p), inverse))
}

// lucas returns V(n) modulo p for the sequence V(0) = 2, V(1) = first, V(k+1) = V(1) V(k) - V(k-1).
func lucas(first, n, p api.Int) api.Int {
	residue := within(p)
	two := integer.Of(2)
	v, next := two, residue(first) // V(k) and V(k+1), where k is what has been read of n
	for i := integer.Bits(n) - 1; i >= 0; i-- {
		between := residue(integer.Sub(integer.Mul(v, next), first)) // V(2k+1)
		if bit(n, i) {
			v, next = between, residue(integer.Sub(integer.Mul(next, next), two))
		} else {
			v, next = residue(integer.Sub(integer.Mul(v, v), two)), between
		}
	}
	return v
}

const maxRootModulus = 1 << 20

// Roots returns all square roots of a modulo p^k.
func Roots(a, p api.Int, k int) ([]api.Int, api.Errno) {
	if integer.Cmp(p, integer.Of(2)) < 0 || k < 1 {
		return nil, api.ErrArg
	}
	step, ok := integer.Low(p)
	if !ok || !smallPower(step, k) {
		return nil, api.ErrBig
	}
	var results []api.Int
	for _, x := range liftedRoots(a, step, k) {
		results = append(results, integer.Of(x))
	}
	return results, api.OK
}

// smallPower reports whether p^k is small enough for Roots; p is at least 2.
func smallPower(p int64, k int) bool {
	rest := int64(maxRootModulus)
	for ; k > 0 && rest > 0; k-- {
		rest /= p
	}
	return rest > 0
}

// liftedRoots finds the roots modulo p, p^2 and so on: each of them is a root modulo the power before it, plus a multiple of that power.
func liftedRoots(a api.Int, p int64, k int) []int64 {
	roots, m := []int64{0}, int64(1)
	for ; k > 0; k-- {
		r, _ := integer.Low(within(integer.Of(m * p))(a))
		var lifted []int64
		for base := int64(0); base < m*p; base += m { // this way they are in increasing order
			for _, root := range roots {
				if x := base + root; x*x%(m*p) == r {
					lifted = append(lifted, x)
				}
			}
		}
		roots, m = lifted, m*p
	}
	return roots
}
