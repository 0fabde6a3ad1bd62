package compose

import (
	"algorist/api"
	"algorist/integer"
	"algorist/modular"
	"algorist/quadratic"
)

// product returns the reduced form of the product of the classes of two suitable forms of the same discriminant.
// With m = f.A/e and n = g.A/e, the form has the coefficients A = m n and B = g.B + 2 r n, which is right modulo 2 n for each r.
// It is right modulo 2 m if r n is half of f.B - g.B modulo m, and then its square is right if r s/e is -g.C modulo m, too.
// (If e and m have a common divisor, the square may be right for other r, too; but these lead to classes that depend on which forms f and g are.)
// As m, n and s/e have no common divisor, there is one such r modulo m: 1 is v n + w s/e modulo m, and so r is v r n + w r s/e.
func product(f, g api.Form) api.Form {
	s := half(integer.Add(f.B, g.B))
	first, _, v := integer.Bezout(f.A, g.A)
	e, u, w := integer.Bezout(first, s)
	v = integer.Mul(u, v)
	m, n := quotient(f.A, e), quotient(g.A, e)
	difference := half(integer.Sub(f.B, g.B))
	r, _ := modular.Mod(integer.Sub(integer.Mul(v, difference), integer.Mul(w, g.C)), m)
	step := integer.Mul(r, n)
	middle := integer.Add(g.B, step)
	return reduced(api.Form{
		A: integer.Mul(m, n),
		B: integer.Add(middle, step),
		C: quotient(integer.Add(integer.Mul(e, g.C), integer.Mul(r, middle)), m),
	})
}

// powers returns the function that raises classes with the discriminant of f to powers, as reduced forms.
func powers(f api.Form) func(api.Form, api.Int) api.Form {
	one, _ := quadratic.Principal(quadratic.Disc(f))
	return func(x api.Form, n api.Int) api.Form {
		if integer.Sign(n) < 0 {
			x, _ = quadratic.Inverse(x)
		} else {
			x = reduced(x)
		}
		return power(one, x, n, product)
	}
}

// power returns the product of |n| elements x, or one if n is 0.
func power[T any](one, x T, n api.Int, times func(T, T) T) T {
	last := integer.Bits(n) - 1
	if last < 0 {
		return one
	}
	z := x
	for i := last - 1; i >= 0; i-- {
		z = times(z, z)
		if n.Mag[i/32]>>(i%32)&1 == 1 {
			z = times(z, x)
		}
	}
	return z
}

// reduced returns the reduced form of the class of a suitable form, in new memory.
func reduced(f api.Form) api.Form {
	g, _, _ := quadratic.Reduce(f)
	return g
}

// isPrincipal reports whether a reduced form is the principal one; the others do not represent 1.
func isPrincipal(f api.Form) bool {
	return integer.Cmp(f.A, integer.Of(1)) == 0
}

// quotient returns a / b, for b other than 0.
func quotient(a, b api.Int) api.Int {
	q, _, _ := integer.DivMod(a, b)
	return q
}

func half(a api.Int) api.Int {
	return quotient(a, integer.Of(2))
}
