package fraction_test

import (
	"math"
	"math/big"
	"math/rand"
	"slices"
	"testing"

	"bombarde/api"
	"bombarde/fraction"
)

// f returns a fraction as it is given, right or not.
func f(num, den int) api.Fraction { return api.Fraction{Num: num, Den: den} }

// wrong has fractions that are not right, each one for a reason of its own.
var wrong = []api.Fraction{{}, {Num: 1, Den: 0}, {Num: 3, Den: -1}, {Num: 2, Den: 4}, {Num: -2, Den: 4}, {Num: 0, Den: 2}, {Num: 1000001, Den: 1}, {Num: -1000001, Den: 1}, {Num: 1, Den: 1000001}, {Num: math.MinInt, Den: 1}, {Num: 1, Den: math.MinInt}, {Num: 1, Den: math.MaxInt}, {Num: math.MinInt, Den: 3}}

// some returns right fractions of all sizes.
func some() []api.Fraction {
	l := []api.Fraction{f(0, 1), f(1, 1), f(-1, 1), f(8, 3), f(-5, 2), f(1, 2), f(-1, 2), f(1000000, 1), f(-1000000, 1), f(1, 1000000), f(-1, 1000000), f(999999, 1000000), f(-1000000, 999999), f(1000000, 999999), f(832040, 514229)}
	random := rand.New(rand.NewSource(3))
	for range 25 {
		size := []int{10, 100, 1000, 1000000}[random.Intn(4)]
		x, _ := fraction.Make(random.Intn(2*size+1)-size, 1+random.Intn(size))
		l = append(l, x)
	}
	return l
}

// ratOf returns a fraction as one of package math/big, which serves as a second opinion.
func ratOf(x api.Fraction) *big.Rat { return big.NewRat(int64(x.Num), int64(x.Den)) }

// right returns the fraction of a number, and ErrLimit if it is too great.
func right(r *big.Rat) (api.Fraction, api.Errno) {
	limit := big.NewInt(api.MaxPart)
	if r.Num().CmpAbs(limit) > 0 || r.Denom().CmpAbs(limit) > 0 {
		return api.Fraction{}, api.ErrLimit
	}
	return f(int(r.Num().Int64()), int(r.Denom().Int64())), api.OK
}

// P2.1
func TestCheck(t *testing.T) {
	for _, x := range some() {
		if e := fraction.Check(x); e != api.OK {
			t.Errorf("Check(%v) = %d", x, e)
		}
	}
	for _, x := range wrong {
		if e := fraction.Check(x); e != api.ErrNumber {
			t.Errorf("Check(%v) = %d", x, e)
		}
	}
}

// P2.1
func TestMakeAndWhole(t *testing.T) {
	ends := []int{math.MinInt, math.MinInt + 1, -1000001, -1000000, -12, -1, 0, 1, 16, 1000000, 1000001, 2000000, math.MaxInt - 1, math.MaxInt}
	for _, num := range ends {
		for _, den := range ends {
			var want api.Fraction
			wantError := api.ErrZero
			if den != 0 {
				want, wantError = right(big.NewRat(0, 1).SetFrac(big.NewInt(int64(num)), big.NewInt(int64(den))))
			}
			if x, e := fraction.Make(num, den); x != want || e != wantError {
				t.Errorf("Make(%d, %d) = %v, %d, not %v, %d", num, den, x, e, want, wantError)
			}
		}
		want, wantError := right(big.NewRat(int64(num), 1))
		if x, e := fraction.Whole(num); x != want || e != wantError {
			t.Errorf("Whole(%d) = %v, %d", num, x, e)
		}
	}
	if x, e := fraction.Make(16, 6); x != f(8, 3) || e != api.OK {
		t.Errorf("Make(16, 6) = %v, %d", x, e)
	}
	if x, e := fraction.Make(3, -6); x != f(-1, 2) || e != api.OK {
		t.Errorf("Make(3, -6) = %v, %d", x, e)
	}
}

// operation is a way of calculating with two fractions.
type operation struct {
	name string
	call func(x, y api.Fraction) (api.Fraction, api.Errno)
	same func(z, x, y *big.Rat) *big.Rat
}

func operations() []operation {
	return []operation{{"Add", fraction.Add, (*big.Rat).Add}, {"Sub", fraction.Sub, (*big.Rat).Sub}, {"Mul", fraction.Mul, (*big.Rat).Mul}, {"Div", fraction.Div, (*big.Rat).Quo}}
}

// P2.2
func TestArithmetic(t *testing.T) {
	for _, o := range operations() {
		for _, x := range some() {
			for _, y := range some() {
				var want api.Fraction
				wantError := api.ErrZero
				if o.name != "Div" || y.Num != 0 {
					want, wantError = right(o.same(new(big.Rat), ratOf(x), ratOf(y)))
				}
				if got, e := o.call(x, y); got != want || e != wantError {
					t.Errorf("%s(%v, %v) = %v, %d, not %v, %d", o.name, x, y, got, e, want, wantError)
				}
			}
		}
		for _, x := range wrong {
			for _, y := range []api.Fraction{f(0, 1), f(1, 2), x} {
				a, e := o.call(x, y)
				b, g := o.call(y, x)
				if a != (api.Fraction{}) || b != a || e != api.ErrNumber || g != e {
					t.Errorf("%s of %v and %v: %v, %d, %v, %d", o.name, x, y, a, e, b, g)
				}
			}
		}
	}
}

// P2.2
func TestSum(t *testing.T) {
	for _, c := range []struct {
		l    []api.Fraction
		want api.Fraction
		e    api.Errno
	}{
		{nil, f(0, 1), api.OK},
		{[]api.Fraction{}, f(0, 1), api.OK},
		{[]api.Fraction{f(8, 3)}, f(8, 3), api.OK},
		{[]api.Fraction{f(8, 3), f(-5, 2), f(1, 3)}, f(1, 2), api.OK},
		{[]api.Fraction{f(1000000, 1), f(-1, 1), f(1, 1)}, f(1000000, 1), api.OK},
		{[]api.Fraction{f(1000000, 1), f(1, 1), f(-1, 1)}, f(0, 0), api.ErrLimit},
		{[]api.Fraction{f(1, 999983), f(1, 999979), f(-1, 999979)}, f(0, 0), api.ErrLimit},
		{[]api.Fraction{f(1, 2), f(2, 4)}, f(0, 0), api.ErrNumber},
		{[]api.Fraction{f(1000000, 1), f(1, 1), f(2, 4)}, f(0, 0), api.ErrNumber},
	} {
		before := slices.Clone(c.l)
		if x, e := fraction.Sum(c.l); x != c.want || e != c.e {
			t.Errorf("Sum(%v) = %v, %d", c.l, x, e)
		}
		if !slices.Equal(c.l, before) {
			t.Errorf("Sum changed %v to %v", before, c.l)
		}
	}
	// P1: each number that is not right is found, at each place.
	for _, x := range wrong {
		for i := range 3 {
			l := []api.Fraction{f(1, 2), f(1, 2), f(1, 2)}
			l[i] = x
			if s, e := fraction.Sum(l); s != (api.Fraction{}) || e != api.ErrNumber {
				t.Errorf("Sum(%v) = %v, %d", l, s, e)
			}
		}
	}
}

// P2.3
func TestCompare(t *testing.T) {
	for _, x := range some() {
		for _, y := range some() {
			if c, e := fraction.Compare(x, y); c != ratOf(x).Cmp(ratOf(y)) || e != api.OK {
				t.Errorf("Compare(%v, %v) = %d, %d", x, y, c, e)
			}
		}
	}
	for _, x := range wrong {
		a, e := fraction.Compare(x, f(1, 1))
		b, g := fraction.Compare(f(1, 1), x)
		if a != 0 || b != 0 || e != api.ErrNumber || g != api.ErrNumber {
			t.Errorf("Compare with %v: %d, %d, %d, %d", x, a, e, b, g)
		}
	}
}

// P2.3
func TestFloorAndNearest(t *testing.T) {
	for _, c := range []struct {
		x              api.Fraction
		floor, nearest int
	}{{f(5, 2), 2, 3}, {f(-5, 2), -3, -2}, {f(0, 1), 0, 0}, {f(7, 1), 7, 7}, {f(-7, 1), -7, -7}, {f(1, 3), 0, 0}, {f(2, 3), 0, 1}, {f(-1, 3), -1, 0}, {f(-2, 3), -1, -1}, {f(1, 2), 0, 1}, {f(-1, 2), -1, 0}, {f(1000000, 1), 1000000, 1000000}, {f(-1, 1000000), -1, 0}, {f(499999, 999999), 0, 0}, {f(500000, 999999), 0, 1}} {
		n, e := fraction.Floor(c.x)
		m, g := fraction.Nearest(c.x)
		if n != c.floor || m != c.nearest || e != api.OK || g != api.OK {
			t.Errorf("%v: Floor = %d, %d, Nearest = %d, %d", c.x, n, e, m, g)
		}
	}
	for _, x := range some() {
		n, _ := fraction.Floor(x)
		if x.Num < n*x.Den || x.Num >= (n+1)*x.Den {
			t.Errorf("Floor(%v) = %d", x, n)
		}
		// From half an integer below the number (excluded) to half an integer above it (included).
		m, _ := fraction.Nearest(x)
		if low, high := 2*x.Num-x.Den, 2*x.Num+x.Den; 2*m*x.Den <= low || 2*m*x.Den > high {
			t.Errorf("Nearest(%v) = %d", x, m)
		}
	}
	for _, x := range wrong {
		n, e := fraction.Floor(x)
		m, g := fraction.Nearest(x)
		if n != 0 || m != 0 || e != api.ErrNumber || g != api.ErrNumber {
			t.Errorf("%v: Floor = %d, %d, Nearest = %d, %d", x, n, e, m, g)
		}
	}
}

// P2.7
func TestConsequences(t *testing.T) {
	one := f(1, 1)
	for _, x := range some() {
		for _, y := range some() {
			sum, e := fraction.Add(x, y)
			mus, g := fraction.Add(y, x)
			if sum != mus || e != g {
				t.Errorf("Add of %v and %v", x, y)
			}
			if back, g := fraction.Sub(sum, y); e == api.OK && (back != x || g != api.OK) {
				t.Errorf("Sub takes %v and %v back to %v, %d", x, y, back, g)
			}
			product, e := fraction.Mul(x, y)
			tcudorp, g := fraction.Mul(y, x)
			if product != tcudorp || e != g {
				t.Errorf("Mul of %v and %v", x, y)
			}
			if back, g := fraction.Div(product, y); e == api.OK && y.Num != 0 && (back != x || g != api.OK) {
				t.Errorf("Div takes %v and %v back to %v, %d", x, y, back, g)
			}
		}
		n, _ := fraction.Floor(x)
		if floor, e := fraction.Whole(n); e == api.OK {
			below, _ := fraction.Compare(floor, x)
			less, g := fraction.Sub(x, one)
			above, _ := fraction.Compare(floor, less)
			if below > 0 || g == api.OK && above <= 0 {
				t.Errorf("Floor(%v) = %d", x, n)
			}
		}
		l, _ := fraction.Terms(x)
		value, _ := fraction.Value(l)
		text, _ := fraction.Text(x)
		read, _ := fraction.Parse(text)
		simplest, _ := fraction.Simplest(x, x)
		if value != x || read != x || simplest != x {
			t.Errorf("%v: from its terms %v, from its text %v, simplest %v", x, value, read, simplest)
		}
	}
}
