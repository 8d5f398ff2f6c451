// Package fraction calculates with fractions whose parts are small, and writes feet. It is layer 2: see shared/doc/02-fraction.md.
package fraction

import (
	"cmp"
	"iter"
	"slices"

	"bombarde/api"
)

// MaxTerms is the greatest number of terms of a continued fraction.
const MaxTerms = 40

// Check returns the error of a fraction.
func Check(x api.Fraction) api.Errno {
	if x.Den < 1 || x.Den > api.MaxPart || x.Num < -api.MaxPart || x.Num > api.MaxPart {
		return api.ErrNumber
	}
	if divisor(magnitude(x.Num), magnitude(x.Den)) != 1 {
		return api.ErrNumber
	}
	return api.OK
}

// checkAll returns ErrNumber if one of some fractions is not right.
func checkAll(l ...api.Fraction) api.Errno {
	for _, x := range l {
		if e := Check(x); e != api.OK {
			return e
		}
	}
	return api.OK
}

// magnitude returns an int without its sign; that of the least int is no int.
func magnitude(n int) uint64 {
	if n < 0 {
		return -uint64(n)
	}
	return uint64(n)
}

// divisor returns the greatest common divisor.
func divisor(a, b uint64) uint64 {
	for b != 0 {
		a, b = b, a%b
	}
	return a
}

// lowest returns a quotient in lowest terms; den is not 0.
func lowest(num, den int) (api.Fraction, api.Errno) {
	n, d := magnitude(num), magnitude(den)
	common := divisor(n, d)
	n, d = n/common, d/common
	if n > api.MaxPart || d > api.MaxPart {
		return api.Fraction{}, api.ErrLimit
	}
	if (num < 0) != (den < 0) {
		return api.Fraction{Num: -int(n), Den: int(d)}, api.OK
	}
	return api.Fraction{Num: int(n), Den: int(d)}, api.OK
}

// Make returns the quotient of two ints.
func Make(num, den int) (api.Fraction, api.Errno) {
	if den == 0 {
		return api.Fraction{}, api.ErrZero
	}
	return lowest(num, den)
}

// Whole returns an int as a fraction.
func Whole(n int) (api.Fraction, api.Errno) { return lowest(n, 1) }

// Add returns a sum.
func Add(x, y api.Fraction) (api.Fraction, api.Errno) {
	if e := checkAll(x, y); e != api.OK {
		return api.Fraction{}, e
	}
	return lowest(x.Num*y.Den+y.Num*x.Den, x.Den*y.Den)
}

// Sub returns a difference.
func Sub(x, y api.Fraction) (api.Fraction, api.Errno) {
	if e := checkAll(x, y); e != api.OK {
		return api.Fraction{}, e
	}
	return lowest(x.Num*y.Den-y.Num*x.Den, x.Den*y.Den)
}

// Mul returns a product.
func Mul(x, y api.Fraction) (api.Fraction, api.Errno) {
	if e := checkAll(x, y); e != api.OK {
		return api.Fraction{}, e
	}
	return lowest(x.Num*y.Num, x.Den*y.Den)
}

// Div returns a quotient.
func Div(x, y api.Fraction) (api.Fraction, api.Errno) {
	if e := checkAll(x, y); e != api.OK {
		return api.Fraction{}, e
	}
	return Make(x.Num*y.Den, x.Den*y.Num)
}

// Sum adds up a list, one number after another.
func Sum(l []api.Fraction) (api.Fraction, api.Errno) {
	// A number that is not right comes before a sum on the way that is too great.
	if e := checkAll(l...); e != api.OK {
		return api.Fraction{}, e
	}
	sum := api.Fraction{Num: 0, Den: 1}
	for _, x := range l {
		next, e := Add(sum, x)
		if e != api.OK {
			return api.Fraction{}, e
		}
		sum = next
	}
	return sum, api.OK
}

// Compare returns the sign of x less y.
func Compare(x, y api.Fraction) (int, api.Errno) {
	if e := checkAll(x, y); e != api.OK {
		return 0, e
	}
	return cmp.Compare(x.Num*y.Den, y.Num*x.Den), api.OK
}

// Floor returns the greatest integer that is not greater than a fraction.
func Floor(x api.Fraction) (int, api.Errno) {
	if e := Check(x); e != api.OK {
		return 0, e
	}
	return floor(x.Num, x.Den), api.OK
}

// Nearest returns the nearest integer, of two that are equally near the greater one.
func Nearest(x api.Fraction) (int, api.Errno) {
	if e := Check(x); e != api.OK {
		return 0, e
	}
	return floor(2*x.Num+x.Den, 2*x.Den), api.OK
}

// floor returns a quotient rounded down; den is greater than 0.
func floor(num, den int) int {
	whole := num / den
	if num%den < 0 {
		return whole - 1
	}
	return whole
}

// Terms returns the continued fraction of a number.
func Terms(x api.Fraction) ([]int, api.Errno) {
	if e := Check(x); e != api.OK {
		return nil, e
	}
	return slices.Collect(terms(x)), api.OK
}

// terms yields the terms of a continued fraction: the integer part, and then those of the reciprocal of the rest.
func terms(x api.Fraction) iter.Seq[int] {
	return func(yield func(int) bool) {
		for num, den := x.Num, x.Den; den > 0; {
			whole := floor(num, den)
			if !yield(whole) {
				return
			}
			num, den = den, num-whole*den
		}
	}
}

// Value returns the value of a continued fraction.
func Value(l []int) (api.Fraction, api.Errno) {
	switch {
	case len(l) == 0:
		return api.Fraction{}, api.ErrEmpty
	case len(l) > MaxTerms:
		return api.Fraction{}, api.ErrLimit
	}
	for _, term := range l[1:] {
		if term < 1 {
			return api.Fraction{}, api.ErrForm
		}
	}
	// num / den is the value of the terms behind, in lowest terms; that of none is infinite, so that its reciprocal is 0.
	num, den := 1, 0
	for _, term := range slices.Backward(l) {
		// The denominator of the result is at least this numerator, and the next numerator at least its term. A first term below -api.MaxPart can only be made good by a tail of 1.
		if num > api.MaxPart || term > api.MaxPart || term < -api.MaxPart-1 {
			return api.Fraction{}, api.ErrLimit
		}
		num, den = term*num+den, num
	}
	return lowest(num, den)
}

// Simplest returns the number with the least denominator from low to high, and of these the one that is nearest to 0.
func Simplest(low, high api.Fraction) (api.Fraction, api.Errno) {
	order, e := Compare(low, high)
	switch {
	case e != api.OK:
		return api.Fraction{}, e
	case order > 0:
		return api.Fraction{}, api.ErrOrder
	case low.Num > 0:
		return lowest(between(low.Num, low.Den, high.Num, high.Den))
	case high.Num < 0:
		num, den := between(-high.Num, high.Den, -low.Num, low.Den)
		return lowest(-num, den)
	}
	return Whole(0)
}

// between returns the simplest number from a / b to c / d, which are greater than 0.
func between(a, b, c, d int) (num, den int) {
	ceiling := -floor(-a, b)
	if ceiling*d <= c {
		return ceiling, 1
	}
	// Without an integer between them both have the same integer part, and a rest greater than 0; the simplest rest has the simplest reciprocal.
	whole := ceiling - 1
	den, num = between(d, c-whole*d, b, a-whole*b)
	return whole*den + num, den
}
