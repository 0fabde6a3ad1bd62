package integer

import "algorist/api"

const (
	maxText = 1300 // bytes of a text
	maxBits = 4319 // of a number with at most so many digits
)

// Text returns the decimal digits.
func Text(a api.Int) (string, api.Errno) {
	x := trim(a.Mag)
	if bits(x) > maxBits { // its digits would only be computed to be counted
		return "", api.ErrBig
	}
	s := digits(x)
	if Sign(a) < 0 {
		s = "-" + s
	}
	if len(s) > maxText {
		return "", api.ErrBig
	}
	return s, api.OK
}

// Parse returns the integer of a text.
func Parse(s string) (api.Int, api.Errno) {
	if len(s) > maxText {
		return api.Int{}, api.ErrBig
	}
	neg := len(s) > 0 && s[0] == '-'
	if neg {
		s = s[1:]
	}
	x, ok := read(s)
	if !ok || neg && len(x) == 0 {
		return api.Int{}, api.ErrForm
	}
	return signed(neg, x), api.OK
}

// digits returns the decimal digits of a size, 0 for 0.
func digits(x []uint32) string {
	x = copied(x)
	var back []byte // the last digit first
	for len(x) > 0 {
		part := divWord(x, 1e9)
		x = trim(x)
		for i := 0; i < 9 && (part > 0 || len(x) > 0); i++ { // no zeros before the first digit
			back = append(back, byte('0'+part%10))
			part /= 10
		}
	}
	if len(back) == 0 {
		return "0"
	}
	s := make([]byte, len(back))
	for i, c := range back {
		s[len(s)-1-i] = c
	}
	return string(s)
}

// read returns the size with these decimal digits, if they are canonical.
func read(s string) ([]uint32, bool) {
	if s == "" || s[0] == '0' && len(s) > 1 {
		return nil, false
	}
	var x []uint32
	for _, c := range s {
		if c < '0' || c > '9' {
			return nil, false
		}
		x = tenTimes(x, uint32(c-'0'))
	}
	return x, true
}

// tenTimes returns 10 x + d, in the memory of x.
func tenTimes(x []uint32, d uint32) []uint32 {
	carry := uint64(d)
	for i, w := range x {
		t := 10*uint64(w) + carry
		x[i] = uint32(t)
		carry = t >> 32
	}
	if carry > 0 {
		x = append(x, uint32(carry))
	}
	return x
}
