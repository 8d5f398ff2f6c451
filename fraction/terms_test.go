package fraction_test

import (
	"math"
	"math/big"
	"slices"
	"testing"

	"bombarde/api"
	"bombarde/fraction"
)

// P2.4
func TestTerms(t *testing.T) {
	for _, c := range []struct {
		x api.Fraction
		l []int
	}{{f(8, 3), []int{2, 1, 2}}, {f(-1, 2), []int{-1, 2}}, {f(0, 1), []int{0}}, {f(1, 1), []int{1}}, {f(-3, 1), []int{-3}}, {f(1, 1000000), []int{0, 1000000}}, {f(-1, 1000000), []int{-1, 1, 999999}}, {f(-8, 3), []int{-3, 3}}, {f(1000000, 999999), []int{1, 999999}}} {
		l, e := fraction.Terms(c.x)
		if !slices.Equal(l, c.l) || e != api.OK {
			t.Errorf("Terms(%v) = %v, %d", c.x, l, e)
		}
	}
	for _, x := range append(some(), f(514229, 832040), f(-514229, 832040)) {
		l, e := fraction.Terms(x)
		if e != api.OK || len(l) == 0 || len(l) > 1 && l[len(l)-1] < 2 {
			t.Fatalf("Terms(%v) = %v, %d", x, l, e)
		}
		if v := valueOf(l); v.Cmp(ratOf(x)) != 0 {
			t.Errorf("Terms(%v) = %v, with the value %v", x, l, v)
		}
	}
	for _, x := range wrong {
		if l, e := fraction.Terms(x); len(l) != 0 || e != api.ErrNumber {
			t.Errorf("Terms(%v) = %v, %d", x, l, e)
		}
	}
}

// valueOf returns the value of a continued fraction as it is defined.
func valueOf(l []int) *big.Rat {
	v := big.NewRat(int64(l[len(l)-1]), 1)
	for _, term := range slices.Backward(l[:len(l)-1]) {
		v.Add(big.NewRat(int64(term), 1), v.Inv(v))
	}
	return v
}

// times returns a list of equal terms.
func times(n, term int) []int { return slices.Repeat([]int{term}, n) }

// P2.4
func TestValue(t *testing.T) {
	for _, l := range [][]int{
		{5}, {0}, {-5}, {1, 1, 1}, {2, 1, 2}, {2, 1, 1, 1}, {-1, 2}, {0, 1}, {0, 1, 1},
		{1000000}, {1000001}, {-1000000}, {-1000001}, {999999, 1}, {1000000, 1}, {-1000001, 1}, {-1000002, 1}, {-1000001, 2}, {-1000000, 1000000}, {-1, 1000000}, {0, 1000000}, {0, 1000001}, {-1, 1000001}, {0, 999999, 1}, {0, 1000000, 1}, {-1000001, 1, 1},
		{math.MaxInt}, {math.MinInt}, {math.MinInt, 1}, {math.MaxInt, 1}, {0, math.MaxInt}, {0, math.MaxInt, math.MaxInt}, {1, math.MaxInt, 1}, {1, 1, math.MaxInt, 1, 2}, {math.MinInt, math.MaxInt, math.MaxInt},
		{0, 1 << 62, 4}, {1 << 62, 4}, {-1 << 62, 4}, {0, 1 << 60, 16, 3}, // calculated in 64 bits, these come back as small fractions
		times(20, 1), times(29, 1), times(30, 1), times(31, 1), times(40, 1), append([]int{-1}, times(29, 1)...), times(40, math.MaxInt),
	} {
		want, wantError := right(valueOf(l))
		before := slices.Clone(l)
		if x, e := fraction.Value(l); x != want || e != wantError {
			t.Errorf("Value(%v) = %v, %d, not %v, %d", l, x, e, want, wantError)
		}
		if !slices.Equal(l, before) {
			t.Errorf("Value changed %v to %v", before, l)
		}
	}
	for _, c := range []struct {
		l []int
		e api.Errno
	}{{nil, api.ErrEmpty}, {[]int{}, api.ErrEmpty}, {times(41, 1), api.ErrLimit}, {times(41, 0), api.ErrLimit}, {times(40, 0), api.ErrForm}, {[]int{1, 0}, api.ErrForm}, {[]int{1, -1}, api.ErrForm}, {[]int{1, math.MinInt}, api.ErrForm}, {[]int{1, 2, 0, 2}, api.ErrForm}, {[]int{1000001, 0}, api.ErrForm}, {[]int{0, 1000001, 0}, api.ErrForm}} {
		if x, e := fraction.Value(c.l); x != (api.Fraction{}) || e != c.e {
			t.Errorf("Value(%v) = %v, %d, not %d", c.l, x, e, c.e)
		}
	}
	// The examples, in full.
	if x, e := fraction.Value([]int{1, 1, 1}); x != f(3, 2) || e != api.OK {
		t.Errorf("Value of 1, 1, 1 = %v, %d", x, e)
	}
	if x, e := fraction.Value([]int{-1000001, 1}); x != f(-1000000, 1) || e != api.OK {
		t.Errorf("Value of -1000001, 1 = %v, %d", x, e)
	}
}

// termsOf returns the continued fraction of a quotient, and the greatest term.
func termsOf(num, den *big.Int) (l []int, greatest *big.Int) {
	greatest = new(big.Int)
	for x, y := num, den; y.Sign() > 0; {
		quotient, rest := new(big.Int).QuoRem(x, y, new(big.Int))
		if quotient.Cmp(greatest) > 0 {
			greatest = quotient
		}
		l = append(l, int(quotient.Int64()))
		x, y = y, rest
	}
	return l, greatest
}

// P2.4: the parts of these numbers are those of 5/3 and multiples of 2 to the power of 64, though their terms are small.
func TestValueOfSmallTerms(t *testing.T) {
	tried := 0
	for i := range int64(500) {
		// The quotient of the multiples has few terms, 1, 40000 + i, 50000 and 60000, so that those behind them have room in the list.
		multiple := (40000+i)*(50000*60000+1) + 60000
		num, den := big.NewInt(multiple+50000*60000+1), big.NewInt(multiple)
		num.Lsh(num, 64).Add(num, big.NewInt(5))
		den.Lsh(den, 64).Add(den, big.NewInt(3))
		l, greatest := termsOf(num, den)
		if len(l) > fraction.MaxTerms || greatest.Cmp(big.NewInt(api.MaxPart)) > 0 {
			continue
		}
		tried++
		if x, e := fraction.Value(l); x != (api.Fraction{}) || e != api.ErrLimit {
			t.Errorf("Value(%v) = %v, %d", l, x, e)
		}
	}
	if tried == 0 {
		t.Error("no list is short enough")
	}
}

// simplest seeks the simplest number, denominator by denominator and from 0 outwards.
func simplest(low, high api.Fraction) api.Fraction {
	lowest, highest := max(-low.Num, low.Num), max(-high.Num, high.Num)
	for den := 1; ; den++ {
		for num := 0; num*low.Den <= lowest*den || num*high.Den <= highest*den; num++ {
			for _, x := range []api.Fraction{f(num, den), f(-num, den)} {
				if low.Num*x.Den <= x.Num*low.Den && x.Num*high.Den <= high.Num*x.Den {
					return x
				}
			}
		}
	}
}

// P2.5, P2.7
func TestSimplest(t *testing.T) {
	for _, c := range []struct{ low, high, want api.Fraction }{{f(3, 10), f(2, 5), f(1, 3)}, {f(5, 2), f(9, 2), f(3, 1)}, {f(-9, 2), f(-5, 2), f(-3, 1)}, {f(-5, 2), f(-3, 2), f(-2, 1)}, {f(-1, 2), f(1, 3), f(0, 1)}, {f(0, 1), f(5, 1), f(0, 1)}, {f(-5, 1), f(0, 1), f(0, 1)}, {f(2, 1), f(3, 1), f(2, 1)}, {f(-3, 1), f(-2, 1), f(-2, 1)}, {f(5, 2), f(3, 1), f(3, 1)}, {f(1, 1000000), f(1, 999999), f(1, 999999)}, {f(999998, 999999), f(999999, 1000000), f(999998, 999999)}, {f(-1000000, 1), f(1000000, 1), f(0, 1)}, {f(514229, 832040), f(514229, 832040), f(514229, 832040)}} {
		if x, e := fraction.Simplest(c.low, c.high); x != c.want || e != api.OK {
			t.Errorf("Simplest(%v, %v) = %v, %d, not %v", c.low, c.high, x, e, c.want)
		}
	}
	for num := 317801; num < 317821; num++ {
		low, high := f(num, 514229), f(num+1, 514229)
		if x, e := fraction.Simplest(low, high); x != simplest(low, high) || e != api.OK {
			t.Errorf("Simplest(%v, %v) = %v, %d", low, high, x, e)
		}
	}
	var small []api.Fraction
	for den := 1; den <= 9; den++ {
		for num := -3 * den; num <= 3*den; num++ {
			if fraction.Check(f(num, den)) == api.OK {
				small = append(small, f(num, den))
			}
		}
	}
	for _, low := range small {
		for _, high := range small {
			x, e := fraction.Simplest(low, high)
			if low.Num*high.Den > high.Num*low.Den {
				if x != (api.Fraction{}) || e != api.ErrOrder {
					t.Errorf("Simplest(%v, %v) = %v, %d", low, high, x, e)
				}
			} else if want := simplest(low, high); x != want || e != api.OK {
				t.Errorf("Simplest(%v, %v) = %v, %d, not %v", low, high, x, e, want)
			}
		}
	}
	for _, x := range wrong {
		for _, y := range []api.Fraction{f(-1000000, 1), f(1000000, 1), x} {
			a, e := fraction.Simplest(x, y)
			b, g := fraction.Simplest(y, x)
			if a != (api.Fraction{}) || b != a || e != api.ErrNumber || g != e {
				t.Errorf("Simplest of %v and %v: %v, %d, %v, %d", x, y, a, e, b, g)
			}
		}
	}
}
