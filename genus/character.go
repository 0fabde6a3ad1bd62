package genus

import (
	"algorist/api"
	"algorist/integer"
	"algorist/modular"
)

// character is a function of integers with its number. It is 0 for those that have a common divisor with its modulus, which is a power of one prime.
type character struct {
	number int
	at     func(n api.Int) int
}

// assigned returns the assigned characters of a right discriminant.
func assigned(d int64) []character {
	var table []character
	for _, p := range oddPrimes(-d) {
		over := integer.Of(p)
		table = append(table, character{int(p), func(n api.Int) int { return modular.Kronecker(n, over) }})
	}
	if d%4 != 0 {
		return table
	}
	for _, k := range assignedToTwo(-d / 4) {
		under := integer.Of(k)
		table = append(table, character{int(k), func(n api.Int) int { return modular.Kronecker(under, n) }})
	}
	return table
}

// assignedToTwo returns the numbers of the characters modulo 4 and 8 that are assigned to the discriminant -4 m.
func assignedToTwo(m int64) []int64 {
	switch m % 8 {
	case 0:
		return []int64{-4, 8}
	case 1, 4, 5:
		return []int64{-4}
	case 2:
		return []int64{-8}
	case 6:
		return []int64{8}
	}
	return nil
}

// oddPrimes returns the odd primes that divide a positive number, in increasing order.
func oddPrimes(n int64) []int64 {
	for n%2 == 0 {
		n /= 2
	}
	var primes []int64
	for p := int64(3); p <= n/p; p += 2 {
		if n%p != 0 {
			continue
		}
		primes = append(primes, p)
		for n%p == 0 {
			n /= p
		}
	}
	if n > 1 {
		primes = append(primes, n)
	}
	return primes
}

// values returns the values of a right form with the discriminant d.
func values(f api.Form, d int64) []int {
	var l []int
	for _, c := range assigned(d) {
		l = append(l, c.of(f))
	}
	return l
}

// of returns the value of a character that is assigned to the discriminant of a right form.
// The character has one value at all numbers that the form represents and that are coprime to the modulus of the character. A or C is: a prime divisor of the discriminant that divides both of them would divide B, too.
func (c character) of(f api.Form) int {
	if v := c.at(f.A); v != 0 {
		return v
	}
	return c.at(f.C)
}
