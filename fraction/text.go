package fraction

import (
	"strconv"
	"strings"

	"bombarde/api"
)

// maxLength is the greatest length of a text that is read.
const maxLength = 40

// Text returns a fraction as it is written: its integer part, and the rest as a fraction.
func Text(x api.Fraction) (string, api.Errno) {
	if e := Check(x); e != api.OK {
		return "", e
	}
	sign, num := "", x.Num
	if num < 0 {
		sign, num = "-", -num
	}
	whole, rest := strconv.Itoa(num/x.Den), strconv.Itoa(num%x.Den)+"/"+strconv.Itoa(x.Den)
	switch {
	case num%x.Den == 0:
		return sign + whole, api.OK
	case num < x.Den:
		return sign + rest, api.OK
	}
	return sign + whole + " " + rest, api.OK
}

// Parse returns the number that a text writes.
func Parse(s string) (api.Fraction, api.Errno) {
	if s == "" {
		return api.Fraction{}, api.ErrEmpty
	}
	if len(s) > maxLength {
		return api.Fraction{}, api.ErrLong
	}
	magnitude, negative := strings.CutPrefix(s, "-")
	wholeText, numText, denText := parts(magnitude)
	if !decimal(wholeText) || !decimal(numText) || !decimal(denText) {
		return api.Fraction{}, api.ErrSyntax
	}
	whole, num, den := value(wholeText), value(numText), value(denText)
	if max(whole, num, den) > api.MaxPart {
		return api.Fraction{}, api.ErrLimit
	}
	num += whole * den
	if negative {
		num = -num
	}
	return Make(num, den)
}

// parts returns the integer part, the numerator and the denominator that a text writes, with 0 or 1 for those that it leaves out.
func parts(s string) (whole, num, den string) {
	before, den, slash := strings.Cut(s, "/")
	if !slash {
		return s, "0", "1"
	}
	whole, num, blank := strings.Cut(before, " ")
	if !blank {
		return "0", before, den
	}
	return whole, num, den
}

// decimal reports whether a text is one or more digits.
func decimal(s string) bool {
	for i := range len(s) {
		if s[i] < '0' || s[i] > '9' {
			return false
		}
	}
	return s != ""
}

// value returns the value of digits, or a greater number than api.MaxPart if it is one.
func value(digits string) int {
	n := 0
	for i := range len(digits) {
		n = min(10*n+int(digits[i]-'0'), api.MaxPart+1)
	}
	return n
}
