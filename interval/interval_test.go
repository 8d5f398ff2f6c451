package interval_test

import (
	"math"
	"math/big"
	"math/rand"
	"testing"

	"bombarde/api"
	"bombarde/fraction"
	"bombarde/interval"
)

type size = interval.Size

// f returns a fraction as it is given, right or not.
func f(num, den int) api.Fraction { return api.Fraction{Num: num, Den: den} }

// of returns the size with some whole exponents, right or not.
func of(two, three, five int) size { return size{f(two, 1), f(three, 1), f(five, 1)} }

// over returns the size whose exponents are some numbers over a denominator.
func over(two, three, five, den int) size {
	var l [3]api.Fraction
	for i, n := range []int{two, three, five} {
		l[i], _ = fraction.Make(n, den)
	}
	return size{l[0], l[1], l[2]}
}

// named returns the size with a name that is known.
func named(t *testing.T, name string) size {
	t.Helper()
	s, e := interval.Named(name)
	if e != api.OK {
		t.Fatalf("Named(%q) = %d", name, e)
	}
	return s
}

// sizes returns right sizes: the usual ones, parts of commas, those at the limits, and random ones.
func sizes() []size {
	l := []size{
		of(0, 0, 0), of(1, 0, 0), of(-1, 0, 0), of(-1, 1, 0), of(2, -1, 0), of(-2, 0, 1), of(-4, 4, -1), of(-19, 12, 0), of(-15, 8, 1), of(7, 0, -3), of(84, -53, 0),
		{f(-1, 1), f(1, 1), f(-1, 4)}, {f(-19, 12), f(1, 1), f(0, 1)}, {f(1, 12), f(0, 1), f(0, 1)}, {f(1, 2), f(1, 3), f(-1, 5)}, {f(1, 16), f(1, 3), f(1, 5)}, {f(1, 240), f(0, 1), f(0, 1)}, {f(5999, 240), f(-5999, 240), f(25, 1)},
		of(6000, 6000, 6000), of(-6000, -6000, -6000), of(6000, -6000, 0), of(0, -6000, 6000), over(5999, -5998, 5997, 239), over(-6000, 6000, 5999, 7),
	}
	random := rand.New(rand.NewSource(5))
	for range 60 {
		n := []int{3, 20, 400, 6000}[random.Intn(4)]
		den := []int{1, 2, 4, 12, 60, 77, 239, 240}[random.Intn(8)]
		l = append(l, over(random.Intn(2*n+1)-n, random.Intn(2*n+1)-n, random.Intn(2*n+1)-n, den))
	}
	return l
}

// rats returns the exponents of a size as numbers of package math/big, which serves as a second opinion.
func rats(s size) [3]*big.Rat {
	var l [3]*big.Rat
	for i, x := range []api.Fraction{s.Two, s.Three, s.Five} {
		l[i] = big.NewRat(int64(x.Num), int64(x.Den))
	}
	return l
}

// right returns the size with some exponents, and ErrLimit if it is not right.
func right(exponents [3]*big.Rat) (size, api.Errno) {
	den := big.NewInt(1)
	for _, x := range exponents {
		common := new(big.Int).GCD(nil, nil, den, x.Denom())
		den.Mul(den, new(big.Int).Quo(x.Denom(), common))
	}
	var l [3]api.Fraction
	for i, x := range exponents {
		n := new(big.Int).Mul(x.Num(), new(big.Int).Quo(den, x.Denom()))
		if n.CmpAbs(big.NewInt(interval.MaxNumerator)) > 0 || den.Cmp(big.NewInt(interval.MaxDenominator)) > 0 {
			return size{}, api.ErrLimit
		}
		l[i] = f(int(x.Num().Int64()), int(x.Denom().Int64()))
	}
	return size{l[0], l[1], l[2]}, api.OK
}

// wrong returns sizes that are not right, with their errors.
func wrong() map[size]api.Errno {
	zero := f(0, 1)
	return map[size]api.Errno{
		{}:                                                     api.ErrNumber,
		{f(1, 0), zero, zero}:                                  api.ErrNumber,
		{zero, f(2, 4), zero}:                                  api.ErrNumber,
		{zero, zero, f(1, -2)}:                                 api.ErrNumber,
		{zero, zero, f(math.MinInt, 1)}:                        api.ErrNumber,
		{zero, f(1, math.MinInt), zero}:                        api.ErrNumber,
		{f(1000001, 1), zero, zero}:                            api.ErrNumber,
		{f(6001, 1), zero, f(0, 2)}:                            api.ErrNumber,
		of(6001, 0, 0):                                         api.ErrLimit,
		of(-6001, 0, 0):                                        api.ErrLimit,
		of(0, 6001, 0):                                         api.ErrLimit,
		of(0, 0, -6001):                                        api.ErrLimit,
		of(1000000, -1000000, 1000000):                         api.ErrLimit,
		{f(1, 241), zero, zero}:                                api.ErrLimit,
		{zero, f(1, 16), f(1, 25)}:                             api.ErrLimit,
		{f(1, 7), f(1, 6), f(1, 11)}:                           api.ErrLimit,
		{f(1, 2), f(3001, 1), zero}:                            api.ErrLimit,
		{f(6001, 2), zero, zero}:                               api.ErrLimit,
		{f(26, 1), zero, f(1, 240)}:                            api.ErrLimit,
		{f(1000000, 1), f(1, 999983), zero}:                    api.ErrLimit,
		{f(1, 999983), f(1, 999979), f(1, 999961)}:             api.ErrLimit,
		{f(1000000, 1), f(1, 999983), f(1, 999979)}:            api.ErrLimit,
		{f(-1000000, 999983), f(1, 1000000), f(1, 999979)}:     api.ErrLimit,
		{f(1000000, 999999), f(999999, 1000000), f(1, 999983)}: api.ErrLimit,
	}
}

// P5.1
func TestCheck(t *testing.T) {
	for _, s := range sizes() {
		if e := interval.Check(s); e != api.OK {
			t.Errorf("Check(%v) = %d", s, e)
		}
	}
	for s, want := range wrong() {
		if e := interval.Check(s); e != want {
			t.Errorf("Check(%v) = %d, not %d", s, e, want)
		}
	}
}

// P1 and P5.3 to P5.6: functions with sizes return the error of Check first, with zero values.
func TestErrorsOfCheck(t *testing.T) {
	fifth := of(-1, 1, 0)
	for s, want := range wrong() {
		check := func(name string, e api.Errno, isZero bool) {
			if e != want || !isZero {
				t.Errorf("%s of %v: %d, not %d", name, s, e, want)
			}
		}
		for _, pair := range [][2]size{{s, fifth}, {fifth, s}} {
			x, e := interval.Add(pair[0], pair[1])
			check("Add", e, x == size{})
			x, e = interval.Sub(pair[0], pair[1])
			check("Sub", e, x == size{})
			n, e := interval.Compare(pair[0], pair[1])
			check("Compare", e, n == 0)
		}
		x, e := interval.Scale(s, api.Fraction{})
		check("Scale", e, x == size{})
		n, e := interval.Sign(s)
		check("Sign", e, n == 0)
		x, n, e = interval.Reduce(s)
		check("Reduce", e, x == size{} && n == 0)
		n, e = interval.Cents(s)
		check("Cents", e, n == 0)
	}
	// Of two sizes the error of the first one counts.
	limit, number := of(6001, 0, 0), size{}
	for _, function := range []func(a, b size) (size, api.Errno){interval.Add, interval.Sub} {
		if _, e := function(limit, number); e != api.ErrLimit {
			t.Errorf("the first error is %d", e)
		}
		if _, e := function(number, limit); e != api.ErrNumber {
			t.Errorf("the first error is %d", e)
		}
	}
	_, e := interval.Compare(limit, number)
	if _, g := interval.Compare(number, limit); e != api.ErrLimit || g != api.ErrNumber {
		t.Errorf("the first errors are %d and %d", e, g)
	}
}

// P5.1
func TestOf(t *testing.T) {
	for _, n := range [][3]int{{0, 0, 0}, {-4, 4, -1}, {6000, -6000, 6000}, {-6000, 0, 1}} {
		if s, e := interval.Of(n[0], n[1], n[2]); s != of(n[0], n[1], n[2]) || e != api.OK {
			t.Errorf("Of(%d) = %v, %d", n, s, e)
		}
	}
	for _, n := range []int{6001, -6001, 1000000, 1000001, math.MaxInt, math.MinInt, math.MinInt + 1} {
		for i := range 3 {
			l := [3]int{1, 1, 1}
			l[i] = n
			if s, e := interval.Of(l[0], l[1], l[2]); s != (size{}) || e != api.ErrLimit {
				t.Errorf("Of(%d) = %v, %d", l, s, e)
			}
		}
	}
	if s, e := interval.Of(math.MinInt, math.MinInt, math.MinInt); s != (size{}) || e != api.ErrLimit {
		t.Errorf("Of three least ints = %v, %d", s, e)
	}
}

// P5.2
func TestRatio(t *testing.T) {
	for pair, want := range map[[2]int]size{
		{1, 1}: of(0, 0, 0), {2, 1}: of(1, 0, 0), {1, 2}: of(-1, 0, 0), {81, 80}: of(-4, 4, -1), {3, 2}: of(-1, 1, 0), {7, 7}: of(0, 0, 0), {21, 14}: of(-1, 1, 0), {14, 21}: of(1, -1, 0),
		{531441, 524288}: of(-19, 12, 0), {math.MaxInt, math.MaxInt}: of(0, 0, 0), {1 << 62, 1}: of(62, 0, 0), {1, 1 << 62}: of(-62, 0, 0), {7450580596923828125, 1}: of(0, 0, 27), {3 * 999983, 5 * 999983}: of(0, 1, -1),
	} {
		if s, e := interval.Ratio(pair[0], pair[1]); s != want || e != api.OK {
			t.Errorf("Ratio(%d) = %v, %d", pair, s, e)
		}
	}
	for pair, want := range map[[2]int]api.Errno{
		{7, 4}: api.ErrForm, {4, 7}: api.ErrForm, {7, 11}: api.ErrForm, {49, 7}: api.ErrForm, {math.MaxInt, 1}: api.ErrForm, {77, 7}: api.ErrForm, {13 * 30, 17 * 30}: api.ErrForm,
		{0, 1}: api.ErrRange, {1, 0}: api.ErrRange, {-3, 2}: api.ErrRange, {3, -2}: api.ErrRange, {-3, -2}: api.ErrRange, {0, 7}: api.ErrRange, {7, 0}: api.ErrRange, {math.MinInt, math.MinInt}: api.ErrRange,
	} {
		if s, e := interval.Ratio(pair[0], pair[1]); s != (size{}) || e != want {
			t.Errorf("Ratio(%d) = %v, %d", pair, s, e)
		}
	}
	// Of the numbers up to 130 just those without another prime factor divide 30 to the power of 7.
	smooth := func(n *big.Int) bool { return 21_870_000_000%n.Int64() == 0 }
	for num := range 130 {
		for den := range 130 {
			x := big.NewRat(int64(num+1), int64(den+1))
			s, e := interval.Ratio(num+1, den+1)
			if smooth(x.Num()) && smooth(x.Denom()) {
				if e != api.OK || value(s).Cmp(x) != 0 {
					t.Errorf("Ratio(%d, %d) = %v, %d", num+1, den+1, s, e)
				}
			} else if e != api.ErrForm || s != (size{}) {
				t.Errorf("Ratio(%d, %d) = %v, %d", num+1, den+1, s, e)
			}
		}
	}
}

// value returns the number of a size with whole exponents.
func value(s size) *big.Rat {
	x := big.NewRat(1, 1)
	for i, n := range []int{s.Two.Num, s.Three.Num, s.Five.Num} {
		power := new(big.Rat).SetInt(new(big.Int).Exp(big.NewInt([]int64{2, 3, 5}[i]), big.NewInt(int64(max(n, -n))), nil))
		if n < 0 {
			power.Inv(power)
		}
		x.Mul(x, power)
	}
	return x
}

// P5.2
func TestNamed(t *testing.T) {
	for name, ratio := range map[string][2]int{"unison": {1, 1}, "octave": {2, 1}, "fifth": {3, 2}, "fourth": {4, 3}, "third": {5, 4}, "minor": {6, 5}, "tone": {9, 8}, "syntonic": {81, 80}, "pythagorean": {531441, 524288}, "schisma": {32805, 32768}, "diesis": {128, 125}} {
		s, e := interval.Named(name)
		want, g := interval.Ratio(ratio[0], ratio[1])
		if s != want || e != api.OK || g != api.OK {
			t.Errorf("Named(%q) = %v, %d, not %v", name, s, e, want)
		}
	}
	for _, name := range []string{"", "Fifth", "fifth ", " fifth", "fift", "comma", "sixth", "third\x00", "minor third"} {
		if s, e := interval.Named(name); s != (size{}) || e != api.ErrUnknown {
			t.Errorf("Named(%q) = %v, %d", name, s, e)
		}
	}
}

// P5.3
func TestAddAndSub(t *testing.T) {
	for _, a := range sizes() {
		for _, b := range sizes() {
			x, y := rats(a), rats(b)
			var sum, difference [3]*big.Rat
			for i := range 3 {
				sum[i] = new(big.Rat).Add(x[i], y[i])
				difference[i] = new(big.Rat).Sub(x[i], y[i])
			}
			s, e := interval.Add(a, b)
			if want, g := right(sum); s != want || e != g {
				t.Errorf("Add(%v, %v) = %v, %d, not %v, %d", a, b, s, e, want, g)
			}
			s, e = interval.Sub(a, b)
			if want, g := right(difference); s != want || e != g {
				t.Errorf("Sub(%v, %v) = %v, %d, not %v, %d", a, b, s, e, want, g)
			}
		}
	}
	// A sum can be right although its parts over their common denominator are too great.
	for _, c := range []struct {
		a, b, sum size
		e         api.Errno
	}{
		{over(1, 0, 0, 239), over(0, 1, 0, 240), size{}, api.ErrLimit},
		{over(1, 2, 3, 240), over(-1, -2, -3, 240), of(0, 0, 0), api.OK},
		{over(1, 0, 0, 16), over(15, 0, 5, 240), over(30, 0, 5, 240), api.OK},
		{over(5999, 0, 0, 240), over(1, 0, 0, 240), of(25, 0, 0), api.OK},
		{over(5999, 0, 0, 240), over(2, 0, 0, 240), size{}, api.ErrLimit},
		{of(6000, 0, 0), of(1, 0, 0), size{}, api.ErrLimit},
		{of(6000, 0, 0), of(-6000, 6000, 0), of(0, 6000, 0), api.OK},
		{of(26, 0, 0), over(0, 0, 1, 240), size{}, api.ErrLimit},
		{of(25, 0, 0), over(0, 0, 1, 240), over(6000, 0, 1, 240), api.OK},
	} {
		if s, e := interval.Add(c.a, c.b); s != c.sum || e != c.e {
			t.Errorf("Add(%v, %v) = %v, %d", c.a, c.b, s, e)
		}
	}
}

// P5.3
func TestScale(t *testing.T) {
	numbers := []api.Fraction{f(0, 1), f(1, 1), f(-1, 1), f(2, 1), f(1, 2), f(-1, 4), f(7, 3), f(1, 240), f(1, 241), f(6000, 1), f(6001, 1), f(1000000, 1), f(-1000000, 999999), f(1, 1000000), f(999983, 999979)}
	for _, a := range sizes() {
		for _, k := range numbers {
			product := rats(a)
			for _, x := range product {
				x.Mul(x, big.NewRat(int64(k.Num), int64(k.Den)))
			}
			s, e := interval.Scale(a, k)
			if want, g := right(product); s != want || e != g {
				t.Errorf("Scale(%v, %v) = %v, %d, not %v, %d", a, k, s, e, want, g)
			}
		}
	}
	for _, k := range []api.Fraction{{}, f(1, 0), f(2, 4), f(1, -1), f(0, 2), f(1000001, 1), f(math.MinInt, 1)} {
		if s, e := interval.Scale(of(1, 2, 3), k); s != (size{}) || e != api.ErrNumber {
			t.Errorf("Scale by %v = %v, %d", k, s, e)
		}
	}
	syntonic := named(t, "syntonic")
	if s, e := interval.Scale(syntonic, f(1, 4)); s != (size{f(-1, 1), f(1, 1), f(-1, 4)}) || e != api.OK {
		t.Errorf("a quarter of the syntonic comma is %v, %d", s, e)
	}
	if s, e := interval.Scale(of(6000, 0, 0), f(-1, 240)); s != of(-25, 0, 0) || e != api.OK {
		t.Errorf("Scale = %v, %d", s, e)
	}
}

// P5.7: the laws of Add and Scale, and what the commas are.
func TestConsequences(t *testing.T) {
	for i, a := range sizes() {
		zero, e := interval.Sub(a, a)
		if same, g := interval.Add(a, zero); zero != named(t, "unison") || same != a || e != api.OK || g != api.OK {
			t.Errorf("%v less itself is %v, %d", a, zero, e)
		}
		for _, b := range sizes()[:11] {
			sum, e := interval.Add(a, b)
			turned, g := interval.Add(b, a)
			if sum != turned || e != g {
				t.Errorf("Add(%v, %v) depends on the order", a, b)
			}
			if back, g := interval.Sub(sum, b); e == api.OK && (back != a || g != api.OK) {
				t.Errorf("Sub does not take back Add(%v, %v)", a, b)
			}
		}
		n := i%7 + 1
		sum := named(t, "unison")
		for range n {
			sum, e = interval.Add(sum, a)
			if e != api.OK {
				break
			}
		}
		times, g := interval.Scale(a, f(n, 1))
		if e == api.OK && (times != sum || g != api.OK) {
			t.Errorf("%d times %v is %v, %d", n, a, times, g)
		}
		if part, h := interval.Scale(times, f(1, n)); g == api.OK && (part != a || h != api.OK) {
			t.Errorf("a part %d of %v is %v, %d", n, times, part, h)
		}
	}
	stacked := func(name string, n int, less ...string) size {
		s, _ := interval.Scale(named(t, name), f(n, 1))
		for _, other := range less {
			s, _ = interval.Sub(s, named(t, other))
		}
		return s
	}
	octaves := []string{"octave", "octave", "octave", "octave", "octave", "octave", "octave"}
	for name, s := range map[string]size{"pythagorean": stacked("fifth", 12, octaves...), "syntonic": stacked("fifth", 4, "octave", "octave", "third"), "diesis": stacked("octave", 1, "third", "third", "third"), "schisma": stacked("pythagorean", 1, "syntonic")} {
		if s != named(t, name) {
			t.Errorf("%s: %v", name, s)
		}
	}
}
