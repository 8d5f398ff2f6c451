package pitch

import (
	"sort"

	"bombarde/api"
	"bombarde/integer"
)

// octaveShift is how many semitones an octave has.
const octaveShift = 12

// power is that of a quotient of feet which is compared with whole powers of 2: two for each semitone, so that one of them stands halfway between two semitones.
const power = 2 * octaveShift

// ratio is a quotient of two feet, as num / den. Its parts can be too great for a right fraction.
type ratio struct{ num, den int }

// ratioOf returns the quotient by which right feet sound higher than others.
func ratioOf(feet, of api.Fraction) ratio {
	return ratio{of.Num * feet.Den, of.Den * feet.Num}
}

// ratioOnUnison returns the quotient by which right feet sound higher than the unison.
func ratioOnUnison(feet api.Fraction) ratio {
	return ratioOf(feet, api.Fraction{Num: unison, Den: 1})
}

// Shift returns by how many semitones feet sound higher than other feet.
func Shift(feet, of api.Fraction) (int, api.Errno) {
	if e := checkBoth(feet, of); e != api.OK {
		return 0, e
	}
	return ratioOf(feet, of).shift(), api.OK
}

// Exact reports whether the shift is exact.
func Exact(feet, of api.Fraction) (bool, api.Errno) {
	if e := checkBoth(feet, of); e != api.OK {
		return false, e
	}
	_, rest := ratioOf(feet, of).octaves()
	return rest.num == rest.den, api.OK
}

// octaves returns how many whole octaves a ratio has, and the rest, which is at least 1 and less than 2.
func (r ratio) octaves() (whole int, rest ratio) {
	for rest = r; rest.num < rest.den; whole-- {
		rest.num *= 2
	}
	for ; rest.num >= 2*rest.den; whole++ {
		rest.den *= 2
	}
	return whole, rest
}

// shift returns the number of semitones that is nearest to a ratio.
func (r ratio) shift() int {
	whole, rest := r.octaves()
	return octaveShift*whole + semitones(raised(rest.num, power), raised(rest.den, power), less)
}

// semitones returns the least n for which the quotient of two powers is less than 2 to the power of 2n + 1. A function that is handed both numbers, each one times the denominator, says whether it is.
func semitones(num, den api.Int, isLess func(a, b api.Int) bool) int {
	return sort.Search(octaveShift, func(n int) bool {
		return isLess(num, integer.Mul(den, raised(2, 2*n+1)))
	})
}

// less reports whether an integer is less than another one.
func less(a, b api.Int) bool { return integer.Compare(a, b) < 0 }

// raised returns the power of a number with few digits and a small exponent.
func raised(base, exponent int) api.Int {
	p, _ := integer.Power(integer.Of(base), exponent)
	return p
}
