package rational

import (
	"strings"

	"algorist/api"
	"algorist/integer"
)

const maxText = 2601 // bytes: two texts of integers, and a slash

// Text returns the numerator, and a slash and the denominator if that is not 1.
func Text(a api.Rat) (string, api.Errno) {
	n, e := integer.Text(a.N)
	if e != api.OK {
		return "", e
	}
	if isOne(a.D) {
		return n, api.OK
	}
	d, e := integer.Text(a.D)
	if e != api.OK {
		return "", e
	}
	return n + "/" + d, api.OK
}

// Parse returns the number of a text.
func Parse(s string) (api.Rat, api.Errno) {
	if len(s) > maxText {
		return api.Rat{}, api.ErrBig
	}
	n, d, slash := strings.Cut(s, "/")
	if !slash {
		d = "1"
	}
	q, ok := read(n, d)
	if !ok || slash && isOne(q.D) {
		return api.Rat{}, api.ErrForm
	}
	return q, api.OK
}

// read returns the number with these texts of its numerator and its denominator, if it is in lowest terms. An integer whose text is too long has none.
func read(n, d string) (api.Rat, bool) {
	num, e := integer.Parse(n)
	if e != api.OK {
		return api.Rat{}, false
	}
	den, e := integer.Parse(d)
	if e != api.OK {
		return api.Rat{}, false
	}
	q := api.Rat{N: num, D: den}
	return q, Valid(q)
}
