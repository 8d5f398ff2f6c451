package interval_test

import (
	"cmp"
	"math/big"
	"slices"
	"testing"

	"bombarde/api"
	"bombarde/interval"
)

// precision is that of the numbers that serve as a second opinion, in bits.
const precision = 400

// float returns a quotient.
func float(num, den int) *big.Float {
	return new(big.Float).SetPrec(precision).SetRat(big.NewRat(int64(num), int64(den)))
}

// artanh returns the sum of (1/n)^k / k over the odd numbers k.
func artanh(n int) *big.Float {
	sum, power := float(0, 1), float(1, n)
	for k := 1; k < 2*precision; k += 2 {
		sum.Add(sum, new(big.Float).Quo(power, float(k, 1)))
		power.Quo(power, float(n*n, 1))
	}
	return sum
}

// logThree and logFive are the logarithms of 3 and 5 to the base 2.
var logThree, logFive = logarithms()

// logarithms returns the logarithms of 3 and 5 to the base 2. The natural ones are those of 16/15, 25/24 and 81/80, which are twice the artanh of 1/31, 1/49 and 1/161, so many times.
func logarithms() (three, five *big.Float) {
	parts := []*big.Float{artanh(31), artanh(49), artanh(161)}
	natural := func(times ...int) *big.Float {
		sum := float(0, 1)
		for i, n := range times {
			sum.Add(sum, new(big.Float).Mul(parts[i], float(n, 1)))
		}
		return sum
	}
	two := natural(7, 5, 3)
	three, five = natural(11, 8, 5), natural(16, 12, 7)
	return three.Quo(three, two), five.Quo(five, two)
}

// logarithm returns that of a size to the base 2.
func logarithm(s size) *big.Float {
	sum := float(s.Two.Num, s.Two.Den)
	sum.Add(sum, new(big.Float).Mul(logThree, float(s.Three.Num, s.Three.Den)))
	return sum.Add(sum, new(big.Float).Mul(logFive, float(s.Five.Num, s.Five.Den)))
}

// floor returns the greatest integer that is not greater than a number.
func floor(x *big.Float) int {
	n, accuracy := x.Int64()
	if accuracy == big.Above {
		n--
	}
	return int(n)
}

// near returns sizes next to the unison, with their signs, and pairs of sizes that are nearly equal, the lesser one first.
func near() (signs map[size]int, pairs [][2]size) {
	signs = map[size]int{of(84, -53, 0): -1, of(-84, 53, 0): 1, of(485, -306, 0): 1, of(1054, -665, 0): -1, of(-1054, 665, 0): 1, of(-1634, -1502, 1729): -1, of(1634, 1502, -1729): 1, of(-5836, 4293, -417): 1, of(5836, -4293, 417): -1}
	pairs = [][2]size{{of(84, 0, 0), of(0, 53, 0)}, {of(0, 306, 0), of(485, 0, 0)}, {of(0, 0, 1729), of(1634, 1502, 0)}, {over(1, 0, 0, 240), over(1, 0, 0, 239)}}
	// 239 * 240 times the difference of the sizes has the exponents -182918, 523635 and -278658, and the logarithm -5.7 / 10^14.
	var low, high [3]int
	for i, n := range []int{-182918, 523635, -278658} {
		low[i] = n % 239
		high[i] = (240*low[i] - n) / 239
	}
	return signs, append(pairs, [2]size{over(low[0], low[1], low[2], 239), over(high[0], high[1], high[2], 240)})
}

// P5.4 to P5.6: the digits of the logarithms that the chapter gives decide each comparison.
//
// The integers a, b, c, and d = a 10^30 + b log(3) + c log(5), with the digits for the logarithms, are the points of a lattice, which the rows of basis generate. None of its points but 0 is nearer to 0 than the least of the heights of these rows above the ones before. If b and c are at most 240000 * 6000 in magnitude, d must then be greater than what the logarithms have beyond these digits: |b| + |c| at most.
func TestDigitsDecide(t *testing.T) {
	number := func(s string) *big.Int {
		n, _ := new(big.Int).SetString(s, 10)
		return n
	}
	one, three, five := number("1000000000000000000000000000000"), number("1584962500721156181453738943947"), number("2321928094887362347870319429489")
	for _, c := range []struct {
		digits *big.Int
		log    *big.Float
	}{{three, logThree}, {five, logFive}} {
		whole, _ := new(big.Float).Mul(c.log, new(big.Float).SetInt(one)).Int(nil)
		if whole.Cmp(c.digits) != 0 {
			t.Errorf("the digits are %s, not %s", whole, c.digits)
		}
	}
	basis := [3][3]int64{{-2408534725, 2311642464, -540642020}, {-30852269709, 161391587, 13177182430}, {-33366383484, 10975804254, 6877967221}}
	minor := func(i, j int) *big.Int {
		x := new(big.Int).Mul(big.NewInt(basis[1][i]), big.NewInt(basis[2][j]))
		return x.Sub(x, new(big.Int).Mul(big.NewInt(basis[1][j]), big.NewInt(basis[2][i])))
	}
	determinant := new(big.Int)
	for i := range 3 {
		determinant.Add(determinant, new(big.Int).Mul(big.NewInt(basis[0][i]), minor((i+1)%3, (i+2)%3)))
	}
	if determinant.CmpAbs(big.NewInt(1)) != 0 {
		t.Fatalf("the rows generate another lattice: %s", determinant)
	}
	var heights [][3]*big.Rat
	for _, row := range basis {
		last := new(big.Int)
		for i, unit := range []*big.Int{one, three, five} {
			last.Add(last, new(big.Int).Mul(big.NewInt(row[i]), unit))
		}
		// The point is b, c, d: a is known from these.
		height := [3]*big.Rat{big.NewRat(row[1], 1), big.NewRat(row[2], 1), new(big.Rat).SetInt(last)}
		for _, before := range heights {
			part := new(big.Rat).Quo(dot(height, before), dot(before, before))
			for i := range height {
				height[i] = new(big.Rat).Sub(height[i], new(big.Rat).Mul(part, before[i]))
			}
		}
		heights = append(heights, height)
	}
	most := int64(2 * 120_000 * interval.MaxNumerator)
	least := new(big.Rat).SetInt(new(big.Int).Mul(big.NewInt(6*most), big.NewInt(most)))
	for _, height := range heights {
		if dot(height, height).Cmp(least) <= 0 {
			t.Errorf("a point can be too near to 0")
		}
	}
}

// dot returns the product of two vectors.
func dot(a, b [3]*big.Rat) *big.Rat {
	sum := new(big.Rat)
	for i := range a {
		sum.Add(sum, new(big.Rat).Mul(a[i], b[i]))
	}
	return sum
}

// P5.4
func TestSign(t *testing.T) {
	for _, s := range sizes() {
		if n, e := interval.Sign(s); n != logarithm(s).Sign() || e != api.OK {
			t.Errorf("Sign(%v) = %d, %d", s, n, e)
		}
	}
	signs, _ := near()
	for s, want := range signs {
		if n, e := interval.Sign(s); n != want || e != api.OK {
			t.Errorf("Sign(%v) = %d, %d", s, n, e)
		}
		// Powers decide, too.
		if value(s).Cmp(big.NewRat(1, 1)) != want {
			t.Errorf("the number of %v has another sign", s)
		}
		part, e := interval.Scale(s, f(1, 240))
		if n, g := interval.Sign(part); n != want || e != api.OK || g != api.OK {
			t.Errorf("Sign(%v) = %d, %d, %d", part, n, e, g)
		}
	}
	for name, want := range map[string]int{"unison": 0, "octave": 1, "syntonic": 1, "pythagorean": 1, "schisma": 1, "diesis": 1} {
		if n, e := interval.Sign(named(t, name)); n != want || e != api.OK {
			t.Errorf("Sign of %s = %d, %d", name, n, e)
		}
	}
	for _, n := range []int{-6000, -1, 0, 1, 6000} {
		if sign, e := interval.Sign(over(n, 0, 0, 240)); sign != cmp.Compare(n, 0) || e != api.OK {
			t.Errorf("Sign of %d / 240 octaves = %d, %d", n, sign, e)
		}
	}
}

// P5.4 and P5.7
func TestCompare(t *testing.T) {
	for _, a := range sizes() {
		for _, b := range sizes() {
			want := logarithm(a).Cmp(logarithm(b))
			if a == b {
				want = 0
			}
			if n, e := interval.Compare(a, b); n != want || e != api.OK {
				t.Errorf("Compare(%v, %v) = %d, %d", a, b, n, e)
			}
			difference, e := interval.Sub(a, b)
			if n, g := interval.Sign(difference); e == api.OK && (n != want || g != api.OK) {
				t.Errorf("Sign(%v) = %d, %d", difference, n, g)
			}
		}
	}
	// The difference of two sizes need not be right.
	_, pairs := near()
	for _, pair := range append(pairs, [2]size{of(-6000, -6000, -6000), of(6000, 6000, 6000)}, [2]size{over(5999, 5999, 5998, 240), over(5999, 5999, 5999, 239)}) {
		less, e := interval.Compare(pair[0], pair[1])
		greater, g := interval.Compare(pair[1], pair[0])
		if less != -1 || greater != 1 || e != api.OK || g != api.OK {
			t.Errorf("Compare of %v = %d, %d; %d, %d", pair, less, greater, e, g)
		}
	}
}

// P5.5 and P5.7
func TestReduce(t *testing.T) {
	tooGreat := 0
	for _, s := range sizes() {
		octaves := floor(logarithm(s))
		exponents := rats(s)
		exponents[0].Sub(exponents[0], big.NewRat(int64(octaves), 1))
		want, wantError := right(exponents)
		if wantError != api.OK {
			octaves = 0
			tooGreat++
		}
		rest, n, e := interval.Reduce(s)
		if rest != want || n != octaves || e != wantError {
			t.Errorf("Reduce(%v) = %v, %d, %d, not %v, %d, %d", s, rest, n, e, want, octaves, wantError)
		}
		if e != api.OK {
			continue
		}
		again, zero, e := interval.Reduce(rest)
		below, _ := interval.Compare(rest, of(1, 0, 0))
		above, _ := interval.Sign(rest)
		if again != rest || zero != 0 || e != api.OK || below != -1 || above < 0 {
			t.Errorf("the rest %v of %v has the rest %v, %d, %d", rest, s, again, zero, e)
		}
	}
	if tooGreat == 0 {
		t.Error("no rest is too great")
	}
	for _, c := range []struct {
		s, rest size
		octaves int
	}{
		{of(-3, 3, 0), of(-4, 3, 0), 1}, {of(1, -1, 0), of(2, -1, 0), -1}, {of(0, 0, 0), of(0, 0, 0), 0}, {of(5, 0, 0), of(0, 0, 0), 5}, {of(-5, 0, 0), of(0, 0, 0), -5}, {of(6000, 0, 0), of(0, 0, 0), 6000},
		{over(-1, 0, 0, 12), over(11, 0, 0, 12), -1}, {over(25, 0, 0, 12), over(1, 0, 0, 12), 2}, {over(-6000, 0, 0, 240), of(0, 0, 0), -25},
		{of(84, -53, 0), of(85, -53, 0), -1}, {of(-84, 53, 0), of(-84, 53, 0), 0}, {of(0, 53, 0), of(-84, 53, 0), 84}, {of(0, -53, 0), of(85, -53, 0), -85}, {of(0, 0, 1), of(-2, 0, 1), 2},
	} {
		if rest, n, e := interval.Reduce(c.s); rest != c.rest || n != c.octaves || e != api.OK {
			t.Errorf("Reduce(%v) = %v, %d, %d", c.s, rest, n, e)
		}
	}
	// 3786 twelfths are 6000.7 octaves.
	for _, c := range []struct {
		s size
		e api.Errno
	}{{of(0, 3786, 0), api.OK}, {of(0, 3787, 0), api.ErrLimit}, {of(0, -3785, 0), api.OK}, {of(0, -3786, 0), api.ErrLimit}, {of(6000, 6000, 6000), api.ErrLimit}, {of(6000, 0, -6000), api.ErrLimit}} {
		if rest, n, e := interval.Reduce(c.s); e != c.e || e != api.OK && (rest != size{} || n != 0) {
			t.Errorf("Reduce(%v) = %v, %d, %d", c.s, rest, n, e)
		}
	}
}

// P5.6 and P5.7
func TestCents(t *testing.T) {
	all := sizes()
	for _, s := range all {
		x := new(big.Float).Mul(logarithm(s), float(120_000, 1))
		want := floor(x.Add(x, float(1, 2)))
		if n, e := interval.Cents(s); n != want || e != api.OK {
			t.Errorf("Cents(%v) = %d, %d, not %d", s, n, e, want)
		}
	}
	slices.SortFunc(all, func(a, b size) int {
		n, _ := interval.Compare(a, b)
		return n
	})
	last, _ := interval.Cents(all[0])
	for _, s := range all {
		n, _ := interval.Cents(s)
		if n < last {
			t.Errorf("Cents(%v) = %d, less than %d", s, n, last)
		}
		last = n
	}
	for name, want := range map[string]int{"unison": 0, "octave": 120000, "fifth": 70196, "fourth": 49804, "third": 38631, "minor": 31564, "tone": 20391, "syntonic": 2151, "pythagorean": 2346, "schisma": 195, "diesis": 4106} {
		if n, e := interval.Cents(named(t, name)); n != want || e != api.OK {
			t.Errorf("Cents of %s = %d, %d", name, n, e)
		}
	}
	// Of two that are equally near the greater one: 1/128 of an octave has 937.5 parts, 1/64 has 1875.
	for n, want := range map[int]int{1: 938, -1: -937, 2: 1875, -2: -1875, 3: 2813, -3: -2812, 5: 4688, -5: -4687} {
		if cents, e := interval.Cents(over(n, 0, 0, 128)); cents != want || e != api.OK {
			t.Errorf("Cents of %d / 128 octaves = %d, %d", n, cents, e)
		}
	}
	if n, e := interval.Cents(of(-6000, 0, 0)); n != -720_000_000 || e != api.OK {
		t.Errorf("Cents of 6000 octaves downward = %d, %d", n, e)
	}
}
