package interval

import (
	"bombarde/api"
	"bombarde/fraction"
)

// parts has the exponents of 2, 3 and 5 over one denominator.
type parts struct {
	numerators  [3]int
	denominator int
}

// partsOf returns the parts of a size, in lowest terms, or its error.
func partsOf(s Size) (parts, api.Errno) {
	exponents := [3]api.Fraction{s.Two, s.Three, s.Five}
	// Three right denominators have a common one that is an int, and so is a right numerator over it.
	p := parts{denominator: 1}
	for _, x := range exponents {
		if e := fraction.Check(x); e != api.OK {
			return parts{}, e
		}
		p.denominator = multiple(p.denominator, x.Den)
	}
	for i, x := range exponents {
		p.numerators[i] = x.Num * (p.denominator / x.Den)
	}
	if !p.right() {
		return parts{}, api.ErrLimit
	}
	return p, api.OK
}

// pairOf returns the parts of two sizes, or their first error.
func pairOf(a, b Size) (p, q parts, e api.Errno) {
	if p, e = partsOf(a); e != api.OK {
		return parts{}, parts{}, e
	}
	if q, e = partsOf(b); e != api.OK {
		return parts{}, parts{}, e
	}
	return p, q, api.OK
}

// right reports whether parts in lowest terms are those of a right size.
func (p parts) right() bool {
	for _, n := range p.numerators {
		if n < -MaxNumerator || n > MaxNumerator {
			return false
		}
	}
	return p.denominator <= MaxDenominator
}

// lowest returns parts in lowest terms.
func (p parts) lowest() parts {
	common := p.denominator
	for _, n := range p.numerators {
		common = divisor(n, common)
	}
	p.denominator /= common
	for i := range p.numerators {
		p.numerators[i] /= common
	}
	return p
}

// size returns the size with some parts, or ErrLimit if it is not right.
func (p parts) size() (Size, api.Errno) {
	p = p.lowest()
	if !p.right() {
		return Size{}, api.ErrLimit
	}
	var exponents [3]api.Fraction
	for i, n := range p.numerators {
		// The parts of a right size are small enough for a right fraction.
		exponents[i], _ = fraction.Make(n, p.denominator)
	}
	return Size{Two: exponents[0], Three: exponents[1], Five: exponents[2]}, api.OK
}

// combine puts the exponents of two sizes together, over one denominator.
func combine(a, b parts, operation func(x, y int) int) parts {
	c := parts{denominator: multiple(a.denominator, b.denominator)}
	for i := range c.numerators {
		x := a.numerators[i] * (c.denominator / a.denominator)
		y := b.numerators[i] * (c.denominator / b.denominator)
		c.numerators[i] = operation(x, y)
	}
	return c
}

// plus returns a sum.
func plus(x, y int) int { return x + y }

// minus returns a difference.
func minus(x, y int) int { return x - y }

// divisor returns the greatest common divisor of an int and one that is greater than 0.
func divisor(n, m int) int {
	for n != 0 {
		n, m = m%n, n
	}
	return max(m, -m)
}

// multiple returns the least common multiple of two ints that are greater than 0.
func multiple(n, m int) int { return n / divisor(n, m) * m }
