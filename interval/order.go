package interval

import (
	"bombarde/api"
	"bombarde/integer"
)

// The logarithms of 2, 3 and 5 to the base 2, in units of 10^-30, rounded down.
const (
	logTwo   = "1000000000000000000000000000000"
	logThree = "1584962500721156181453738943947"
	logFive  = "2321928094887362347870319429489"
)

// centParts is how many hundredths of a cent an octave has.
const centParts = 120_000

// logarithm returns the logarithm of the number with some parts, times their denominator, in units of 10^-30.
//
// For each 3 and 5 in the numerators up to one unit is left out, but this never decides: for whole numbers a, b and c, not all of them 0, with b and c from -2 centParts MaxNumerator to 2 centParts MaxNumerator, a logTwo + b logThree + c logFive is farther from 0 than |b| + |c| (the test TestDigitsDecide proves it). So the result has the sign of the logarithm, and it is on the right side of each whole multiple of logTwo.
func (p parts) logarithm() api.Int {
	return integer.Sum(
		integer.Mul(integer.Of(p.numerators[0]), logTwo),
		integer.Mul(integer.Of(p.numerators[1]), logThree),
		integer.Mul(integer.Of(p.numerators[2]), logFive),
	)
}

// floor returns the greatest int that is not greater than a quotient; den is greater than 0.
func floor(num, den api.Int) int {
	// Right sizes have few octaves, so that each quotient that is asked for is small.
	quotient, _, _ := integer.DivMod(num, den)
	n, _ := integer.Small(quotient)
	return n
}

// Sign returns 1, 0 or -1 for a size that is greater than the unison, equal to it, or less.
func Sign(a Size) (int, api.Errno) {
	p, e := partsOf(a)
	if e != api.OK {
		return 0, e
	}
	return integer.Sign(p.logarithm()), api.OK
}

// Compare returns 1, 0 or -1 for a greater than, equal to, or less than b.
func Compare(a, b Size) (int, api.Errno) {
	p, q, e := pairOf(a, b)
	if e != api.OK {
		return 0, e
	}
	return integer.Sign(combine(p, q, minus).logarithm()), api.OK
}

// Reduce returns what is left of a size without whole octaves, with their number.
func Reduce(a Size) (rest Size, octaves int, e api.Errno) {
	p, e := partsOf(a)
	if e != api.OK {
		return Size{}, 0, e
	}
	octaves = floor(p.logarithm(), integer.Mul(integer.Of(p.denominator), logTwo))
	p.numerators[0] -= octaves * p.denominator
	if rest, e = p.size(); e != api.OK {
		return Size{}, 0, e
	}
	return rest, octaves, api.OK
}

// Cents returns the hundredths of a cent that are nearest, of two that are equally near the greater one.
func Cents(a Size) (int, api.Errno) {
	p, e := partsOf(a)
	if e != api.OK {
		return 0, e
	}
	// The nearest integer is the greatest one that is not greater than the number and a half.
	octave := integer.Mul(integer.Of(p.denominator), logTwo)
	twice := integer.Mul(integer.Of(2*centParts), p.logarithm())
	return floor(integer.Add(twice, octave), integer.Mul("2", octave)), api.OK
}
