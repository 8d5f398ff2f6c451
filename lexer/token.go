package lexer

import (
	"strconv"
	"strings"

	"bombarde/api"
	"bombarde/fraction"
)

// maxNumber is the greatest value of a number, without the sign.
const maxNumber = 1_000_000_000

// class says what a byte can begin.
type class int

const (
	unknown class = iota
	gap
	feed
	comment
	letter
	digit
	minus
	quotation
	sign
)

// classOf returns the class of a byte.
func classOf(c byte) class {
	switch c {
	case ' ', '\t':
		return gap
	case '\n':
		return feed
	case '%':
		return comment
	case '0', '1', '2', '3', '4', '5', '6', '7', '8', '9':
		return digit
	case '-':
		return minus
	case '"':
		return quotation
	case '(', ')', '[', ']', '{', '}', ':', ',', ';', '=', '+', '.', '?', '*', '/':
		return sign
	}
	if 'A' <= c && c <= 'Z' || 'a' <= c && c <= 'z' {
		return letter
	}
	return unknown
}

// run returns how many bytes at the beginning of a text are of a sort.
func run(s string, of func(c byte) bool) int {
	n := 0
	for n < len(s) && of(s[n]) {
		n++
	}
	return n
}

// digits returns how many digits a text begins with.
func digits(s string) int {
	return run(s, func(c byte) bool { return classOf(c) == digit })
}

// token returns the token that a text begins with, without its position, and its length.
func token(s string) (Token, int, api.Errno) {
	switch classOf(s[0]) {
	case letter:
		return word(s)
	case digit:
		return measure(s)
	case minus:
		return dash(s)
	case quotation:
		return quote(s)
	case sign:
		return Token{Kind: Mark, Text: s[:1]}, 1, api.OK
	}
	return Token{}, 0, api.ErrSyntax
}

// word returns the word that a text begins with.
func word(s string) (Token, int, api.Errno) {
	length := run(s, func(c byte) bool { return classOf(c) == letter || classOf(c) == digit || c == '_' })
	if length > api.MaxName {
		return Token{}, 0, api.ErrName
	}
	return Token{Kind: Word, Text: s[:length]}, length, api.OK
}

// quote returns the quote that a text with a quotation mark begins with.
func quote(s string) (Token, int, api.Errno) {
	end := 1 + run(s[1:], func(c byte) bool { return c != '"' && c != '\n' })
	if end == len(s) || s[end] != '"' {
		return Token{}, 0, api.ErrSyntax
	}
	return Token{Kind: Quote, Text: s[1:end]}, end + 1, api.OK
}

// dash returns the arrow or the number that a text with a minus sign begins with.
func dash(s string) (Token, int, api.Errno) {
	if strings.HasPrefix(s, "->") {
		return Token{Kind: Mark, Text: "->"}, 2, api.OK
	}
	length := digits(s[1:])
	if length == 0 {
		return Token{}, 0, api.ErrSyntax
	}
	return number(s[:1+length])
}

// measure returns the feet that a text with a digit begins with, or else the number.
func measure(s string) (Token, int, api.Errno) {
	for _, shape := range []string{"9'", "9/9'", "9-9/9'"} {
		parts, length, found := match(s, shape)
		if !found {
			continue
		}
		value, e := valueOf(parts)
		if e != api.OK {
			return Token{}, 0, api.ErrNumber
		}
		return Token{Kind: Feet, Text: textOf(value), Feet: value}, length, api.OK
	}
	return number(s[:digits(s)])
}

// match returns the digits at the beginning of a text of some shape, where 9 stands for any number of digits, and their length with all that stands between them.
func match(s, shape string) (parts []string, length int, found bool) {
	for i := range len(shape) {
		n := 1
		if shape[i] == '9' {
			n = digits(s[length:])
			parts = append(parts, s[length:length+n])
		} else if !strings.HasPrefix(s[length:], shape[i:i+1]) {
			n = 0
		}
		if n == 0 {
			return nil, 0, false
		}
		length += n
	}
	return parts, length, true
}

// number returns a number, all of whose digits are given.
func number(s string) (Token, int, api.Errno) {
	n, err := strconv.Atoi(s)
	if err != nil || n < -maxNumber || n > maxNumber {
		return Token{}, 0, api.ErrNumber
	}
	return Token{Kind: Number, Text: strconv.Itoa(n), Number: n}, len(s), api.OK
}

// valueOf returns the value of the feet with some digits: those of a number, of a quotient, or of both.
func valueOf(parts []string) (api.Fraction, api.Errno) {
	l := make([]int, len(parts))
	for i, s := range parts {
		n, err := strconv.Atoi(s)
		if err != nil || n > api.MaxPart {
			return api.Fraction{}, api.ErrNumber
		}
		l[i] = n
	}
	switch len(l) {
	case 1:
		return fraction.Whole(l[0])
	case 2:
		return fraction.Make(l[0], l[1])
	}
	return fraction.Make(l[0]*l[2]+l[1], l[2])
}

// textOf returns the text of feet with some value, which is right.
func textOf(x api.Fraction) string {
	s, _ := fraction.Text(x)
	return strings.Replace(s, " ", "-", 1) + "'"
}
