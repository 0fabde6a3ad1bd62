package point

import (
	"algorist/api"
	"algorist/integer"
	"algorist/modular"
)

func isCurve(c api.Mod) bool {
	if !integer.Valid(c.M) || integer.Cmp(c.M, integer.Of(3)) <= 0 || c.M.Mag[0]&1 == 0 {
		return false
	}
	return isResidue(c.A, c.M) && isResidue(c.B, c.M)
}

// isPoint reports whether p is a point of a curve.
func isPoint(c api.Mod, p api.Point) bool {
	if p.Inf {
		return isZero(p.X) && isZero(p.Y)
	}
	if !isResidue(p.X, c.M) || !isResidue(p.Y, c.M) {
		return false
	}
	cubic := integer.Mul(integer.Add(integer.Mul(p.X, p.X), c.A), p.X)
	difference := integer.Sub(integer.Mul(p.Y, p.Y), integer.Add(cubic, c.B))
	return isZero(residue(difference, c.M))
}

// sum returns the sum of two points of a curve, and the divisor 0; or the divisor, if there is no sum.
func sum(c api.Mod, p, q api.Point) (api.Point, api.Int) {
	switch {
	case p.Inf:
		return copied(q), api.Int{}
	case q.Inf:
		return copied(p), api.Int{}
	}
	n, d := slope(c, p, q)
	if isZero(d) {
		return api.Point{Inf: true}, api.Int{}
	}
	inverse, e := modular.Inv(d, c.M)
	if e != api.OK {
		return api.Point{}, integer.Gcd(d, c.M)
	}
	s := residue(integer.Mul(n, inverse), c.M)
	x := residue(integer.Sub(integer.Mul(s, s), integer.Add(p.X, q.X)), c.M)
	y := residue(integer.Sub(integer.Mul(s, integer.Sub(p.X, x)), p.Y), c.M)
	return api.Point{X: x, Y: y}, api.Int{}
}

// slope returns the numerator and the denominator of the slope of the line through two points, or of the tangent; the denominator is 0 if the sum is at infinity.
func slope(c api.Mod, p, q api.Point) (api.Int, api.Int) {
	if integer.Cmp(p.X, q.X) != 0 {
		return integer.Sub(q.Y, p.Y), integer.Sub(q.X, p.X)
	}
	n := integer.Add(integer.Mul(integer.Of(3), integer.Mul(p.X, p.X)), c.A)
	return n, residue(integer.Add(p.Y, q.Y), c.M)
}

func opposite(c api.Mod, p api.Point) api.Point {
	if p.Inf {
		return api.Point{Inf: true}
	}
	return api.Point{X: integer.Abs(p.X), Y: residue(integer.Neg(p.Y), c.M)} // Abs copies
}

// copied returns the same point in new memory.
func copied(p api.Point) api.Point {
	return api.Point{X: integer.Abs(p.X), Y: integer.Abs(p.Y), Inf: p.Inf}
}

// residue returns a modulo m, which is positive.
func residue(a, m api.Int) api.Int {
	r, _ := modular.Mod(a, m)
	return r
}

func isResidue(a, m api.Int) bool {
	return integer.Valid(a) && integer.Sign(a) >= 0 && integer.Cmp(a, m) < 0
}

func isZero(a api.Int) bool {
	return integer.Valid(a) && integer.Sign(a) == 0
}
