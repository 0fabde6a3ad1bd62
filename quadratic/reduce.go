package quadratic

import (
	"algorist/api"
	"algorist/integer"
)

// Reduced reports whether a form is right, has a negative discriminant, and is reduced.
func Reduced(f api.Form) bool {
	return checkDefinite(f) == api.OK && isReduced(f)
}

// Reduce returns the reduced form of the class of a form, and a matrix that leads to it.
func Reduce(f api.Form) (api.Form, api.Mat, api.Errno) {
	if e := checkDefinite(f); e != api.OK {
		return api.Form{}, api.Mat{}, e
	}
	r := reduction{Form: f, m: api.Mat{A: integer.Of(1), D: integer.Of(1)}}
	r.narrow()
	for !isReduced(r.Form) {
		r.swap()
		r.narrow()
	}
	return r.Form, r.m, api.OK
}

// Inverse returns the reduced form of the opposite class.
func Inverse(f api.Form) (api.Form, api.Errno) {
	if e := checkDefinite(f); e != api.OK { // before Neg, whose result is valid even if B is not
		return api.Form{}, e
	}
	f.B = integer.Neg(f.B)
	g, _, e := Reduce(f)
	return g, e
}

// Same returns a matrix that leads from f to g, if they are properly equivalent.
func Same(f, g api.Form) (api.Mat, bool) {
	r, m, e1 := Reduce(f)
	s, n, e2 := Reduce(g)
	if e1 != api.OK || e2 != api.OK || !isEqual(r, s) {
		return api.Mat{}, false
	}
	return Times(m, inverse(n)), true
}

// checkDefinite returns an error unless a form is right, and its discriminant is negative.
func checkDefinite(f api.Form) api.Errno {
	if e := Check(f); e != api.OK {
		return e
	}
	if integer.Sign(Disc(f)) > 0 {
		return api.ErrDisc
	}
	return api.OK
}

// isReduced reports whether a positive definite form is reduced.
func isReduced(f api.Form) bool {
	first, second := integer.Cmp(integer.Abs(f.B), f.A), integer.Cmp(f.A, f.C)
	if first > 0 || second > 0 {
		return false
	}
	return first < 0 && second < 0 || integer.Sign(f.B) >= 0 // at the edges, f and the form with -B are equivalent
}

func isEqual(f, g api.Form) bool {
	return integer.Cmp(f.A, g.A) == 0 && integer.Cmp(f.B, g.B) == 0 && integer.Cmp(f.C, g.C) == 0
}

// reduction is a positive definite form on the way to the reduced one, with the matrix that has led to it.
type reduction struct {
	api.Form
	m api.Mat
}

// apply goes on to the form under a matrix.
func (r *reduction) apply(m api.Mat) {
	r.Form = Apply(r.Form, m)
	r.m = Times(r.m, m)
}

// narrow takes x + k y for x, with the k for which -A < B <= A.
func (r *reduction) narrow() {
	k, _, _ := integer.DivMod(integer.Sub(r.A, r.B), twice(r.A))
	r.apply(api.Mat{A: integer.Of(1), B: k, D: integer.Of(1)})
}

// swap takes -y for x, and x for y, so that A and C are exchanged. After narrow, A becomes less, or stays and B becomes positive: so reduction ends.
func (r *reduction) swap() {
	r.apply(api.Mat{B: integer.Of(-1), C: integer.Of(1)})
}
