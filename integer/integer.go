// Package integer calculates with integers of any size. It is layer 1: see shared/doc/01-integer.md.
//
// Arithmetic has two paths: integers that are small enough are calculated as ints, all others as numbers in pieces (pieces.go). A text that is not canonical counts as 0.
package integer

import (
	"cmp"
	"math/bits"
	"strconv"
	"strings"

	"bombarde/api"
)

// MaxPower is the greatest exponent of Power.
const MaxPower = 6000

// maxPowerDigits bounds the digits of a power.
const maxPowerDigits = 4 * MaxPower

// smallDigits is how many digits every int can have, with room for the sum of two such ints.
const smallDigits = 18

// Check returns the error of an integer.
func Check(a api.Int) api.Errno {
	if !canonical(a) || len(digits(a)) > api.MaxDigits {
		return api.ErrNumber
	}
	return api.OK
}

// Of returns an int as an integer.
func Of(n int) api.Int { return api.Int(strconv.Itoa(n)) }

// Parse returns the integer that a text writes.
func Parse(text string) (api.Int, api.Errno) {
	if text == "" {
		return "", api.ErrEmpty
	}
	written, negative := strings.CutPrefix(text, "-")
	if !negative {
		written = strings.TrimPrefix(text, "+")
	}
	if !grouped(written) {
		return "", api.ErrSyntax
	}
	magnitude := strings.TrimLeft(strings.ReplaceAll(written, " ", ""), "0")
	if len(magnitude) > api.MaxDigits {
		return "", api.ErrLong
	}
	if magnitude == "" {
		return "0", api.OK
	}
	if negative {
		return api.Int("-" + magnitude), api.OK
	}
	return api.Int(magnitude), api.OK
}

// Small returns an integer as an int, if it has at most 18 digits.
func Small(a api.Int) (n int, is bool) {
	if len(digits(a)) > smallDigits || !canonical(a) {
		return 0, false
	}
	n, err := strconv.Atoi(string(a))
	return n, err == nil
}

// digits returns an integer without its sign.
func digits(a api.Int) string { return strings.TrimPrefix(string(a), "-") }

// canonical reports whether an integer is written in the one way that is allowed.
func canonical(a api.Int) bool {
	d := digits(a)
	return a == "0" || d != "" && d[0] != '0' && decimal(d)
}

// decimal reports whether a text has digits only.
func decimal(text string) bool {
	for i := range len(text) {
		if !digit(text[i]) {
			return false
		}
	}
	return true
}

// digit reports whether a byte is a decimal digit.
func digit(b byte) bool { return '0' <= b && b <= '9' }

// grouped reports whether a text is digits, with at most one blank between each two.
func grouped(text string) bool {
	behindDigit := false
	for i := range len(text) {
		isDigit := digit(text[i])
		if !isDigit && (text[i] != ' ' || !behindDigit) {
			return false
		}
		behindDigit = isDigit
	}
	return behindDigit
}

// Sign returns the sign of an integer: -1, 0 or 1.
func Sign(a api.Int) int { return read(a).sign() }

// Compare returns the sign of a less b.
func Compare(a, b api.Int) int {
	if x, y, small := smallPair(a, b); small {
		return cmp.Compare(x, y)
	}
	return read(a).plus(read(b).negated()).sign()
}

// smallPair returns two integers as ints, if both are small.
func smallPair(a, b api.Int) (x, y int, small bool) {
	x, isX := Small(a)
	y, isY := Small(b)
	return x, y, isX && isY
}

// Neg returns an integer with the other sign.
func Neg(a api.Int) api.Int { return read(a).negated().text() }

// Add returns the sum of two integers.
func Add(a, b api.Int) api.Int {
	if x, y, small := smallPair(a, b); small {
		return Of(x + y)
	}
	return read(a).plus(read(b)).text()
}

// Sub returns the difference of two integers.
func Sub(a, b api.Int) api.Int {
	if x, y, small := smallPair(a, b); small {
		return Of(x - y)
	}
	return read(a).plus(read(b).negated()).text()
}

// Mul returns the product of two integers.
func Mul(a, b api.Int) api.Int {
	// A product has at most as many digits as both factors together.
	if len(digits(a))+len(digits(b)) <= smallDigits {
		if x, y, small := smallPair(a, b); small {
			return Of(x * y)
		}
	}
	return read(a).times(read(b)).text()
}

// DivMod returns the quotient, rounded down, and the remainder, which has the sign of b or is 0.
func DivMod(a, b api.Int) (q, r api.Int, e api.Errno) {
	if Sign(b) == 0 {
		return "", "", api.ErrZero
	}
	if x, y, small := smallPair(a, b); small {
		quotient, rest := x/y, x%y
		if rest != 0 && (rest < 0) != (y < 0) {
			quotient, rest = quotient-1, rest+y
		}
		return Of(quotient), Of(rest), api.OK
	}
	quotient, rest := read(a).divide(read(b))
	return quotient.text(), rest.text(), api.OK
}

// Power returns the product of n factors a.
func Power(a api.Int, n int) (api.Int, api.Errno) {
	if n < 0 || n > MaxPower {
		return "", api.ErrRange
	}
	if n*len(digits(a)) > maxPowerDigits {
		return "", api.ErrLimit
	}
	base, power := read(a), read("1")
	for bit := bits.Len(uint(n)) - 1; bit >= 0; bit-- {
		power = power.times(power)
		if n>>bit&1 == 1 {
			power = power.times(base)
		}
	}
	return power.text(), api.OK
}

// Gcd returns the greatest integer that divides both, 0 if both are 0.
func Gcd(a, b api.Int) api.Int {
	if x, y, small := smallPair(a, b); small {
		for y != 0 {
			x, y = y, x%y
		}
		return Of(max(x, -x))
	}
	x, y := read(a).pieces, read(b).pieces
	for len(y) > 0 {
		_, rest := divideMagnitudes(x, y)
		x, y = y, rest
	}
	return number{pieces: x}.text()
}

// Sum adds up a list.
func Sum(l ...api.Int) api.Int {
	sum := read("0")
	for _, a := range l {
		sum = sum.plus(read(a))
	}
	return sum.text()
}

// Product multiplies a list.
func Product(l ...api.Int) api.Int {
	product := read("1")
	for _, a := range l {
		product = product.times(read(a))
	}
	return product.text()
}
