package genus

import (
	"slices"

	"algorist/api"
	"algorist/integer"
	"algorist/quadratic"
)

// Ambiguous returns the primitive reduced forms of a discriminant that are properly equivalent to their inverses.
func Ambiguous(d api.Int) ([]api.Form, api.Errno) {
	n, e := small(d)
	if e != api.OK {
		return nil, e
	}
	var l []api.Form
	for a := int64(1); 3*a*a <= -n; a++ { // for reduced forms, -d = 4 A C - B^2 is at least 4 A^2 - A^2
		for _, shape := range shapes(n) {
			b, c := shape(a)
			f := api.Form{A: integer.Of(a), B: integer.Of(b), C: integer.Of(c)}
			if b*b-4*a*c == n && quadratic.Reduced(f) && quadratic.Primitive(f) {
				l = append(l, f)
			}
		}
	}
	return slices.CompactFunc(l, isEqual), api.OK // as 1, 0, 1 and 1, 1, 1 have two shapes
}

// shapes returns a function for each shape of reduced forms that are their own inverses: B = 0, A = C and B = A, in the order of B.
// From A, they find the only numbers B and C that a form of this shape with the discriminant d may have. If there is none, the numbers are those of a form with another discriminant.
func shapes(d int64) [3]func(a int64) (b, c int64) {
	return [3]func(a int64) (b, c int64){
		func(a int64) (b, c int64) { return 0, -d / (4 * a) },
		func(a int64) (b, c int64) { return root(d + 4*a*a), a },
		func(a int64) (b, c int64) { return a, (a*a - d) / (4 * a) },
	}
}

// root returns the square root, rounded down; 0 for negative numbers.
func root(n int64) int64 {
	s, _, _ := integer.Sqrt(integer.Of(n))
	r, _ := integer.Low(s)
	return r
}

func isEqual(f, g api.Form) bool {
	return integer.Cmp(f.A, g.A) == 0 && integer.Cmp(f.B, g.B) == 0 && integer.Cmp(f.C, g.C) == 0
}
