package quadratic

import (
	"algorist/api"
	"algorist/integer"
)

// Apply returns the form f under the matrix m.
func Apply(f api.Form, m api.Mat) api.Form {
	// the derivatives of f at the first column of m; their products with the second column make the coefficient of x y
	byX := integer.Add(twice(integer.Mul(f.A, m.A)), integer.Mul(f.B, m.C))
	byY := integer.Add(integer.Mul(f.B, m.A), twice(integer.Mul(f.C, m.C)))
	return api.Form{
		A: Value(f, m.A, m.C),
		B: integer.Add(integer.Mul(byX, m.B), integer.Mul(byY, m.D)),
		C: Value(f, m.B, m.D),
	}
}

// Det returns the determinant.
func Det(m api.Mat) api.Int {
	return integer.Sub(integer.Mul(m.A, m.D), integer.Mul(m.B, m.C))
}

// Times returns the product of two matrices.
func Times(m, n api.Mat) api.Mat {
	x, y := rows(m), rows(n)
	var z [2][2]api.Int
	for i := range z {
		for j := range z[i] {
			z[i][j] = integer.Add(integer.Mul(x[i][0], y[0][j]), integer.Mul(x[i][1], y[1][j]))
		}
	}
	return api.Mat{A: z[0][0], B: z[0][1], C: z[1][0], D: z[1][1]}
}

func rows(m api.Mat) [2][2]api.Int {
	return [2][2]api.Int{{m.A, m.B}, {m.C, m.D}}
}

// inverse returns the inverse of a matrix with the determinant 1.
func inverse(m api.Mat) api.Mat {
	return api.Mat{A: m.D, B: integer.Neg(m.B), C: integer.Neg(m.C), D: m.A}
}

func twice(a api.Int) api.Int { return integer.Add(a, a) }
