package diagram_test

import (
	"math"
	"math/big"
	"slices"
	"strings"
	"testing"

	"bombarde/api"
	"bombarde/diagram"
	"bombarde/formula"
	"bombarde/integer"
)

// P8.5
func TestValue(t *testing.T) {
	for _, f := range truths(3) {
		d := naive(f, []int{0, 1, 2})
		for at := range f {
			values := row(at, 3)
			if got, e := diagram.Value(d, values); got != f[at] || e != api.OK {
				t.Errorf("Value(%v, %v) = %t, %d", d, values, got, e)
			}
			if got, e := diagram.Value(d, append(values, true, false)); got != f[at] || e != api.OK {
				t.Errorf("Value(%v, %v and more) = %t, %d", d, values, got, e)
			}
		}
	}
	// A variable that occurs must have a value, also if it is not asked for.
	d := of(t, "|(x0 x5)")
	for n := range 9 {
		want := api.OK
		if n < 6 {
			want = api.ErrSize
		}
		got, e := diagram.Value(d, slices.Repeat([]bool{true}, n))
		if e != want || got != (want == api.OK) {
			t.Errorf("Value with %d values = %t, %d", n, got, e)
		}
	}
	if got, e := diagram.Value(diagram.Constant(true), nil); !got || e != api.OK {
		t.Errorf("Value of True = %t, %d", got, e)
	}
	if got, e := diagram.Value(diagram.Constant(false), nil); got || e != api.OK {
		t.Errorf("Value of False = %t, %d", got, e)
	}
}

// P8.5
func TestSupport(t *testing.T) {
	for _, f := range truths(3) {
		var want []int
		for i, variable := range names() {
			if bit := 1 << (2 - i); slices.ContainsFunc([]int{0, 1, 2, 3, 4, 5, 6, 7}, func(at int) bool { return f[at&^bit] != f[at|bit] }) {
				want = append(want, variable)
			}
		}
		if got, e := diagram.Support(naive(f, names())); e != api.OK || !slices.Equal(got, want) {
			t.Errorf("Support of %v = %v, %d, not %v", f, got, e, want)
		}
	}
	if got, e := diagram.Support(of(t, pairs(14))); e != api.OK || len(got) != 28 || got[27] != 27 {
		t.Errorf("Support = %v, %d", got, e)
	}
}

// P8.6 and P8.7
func TestCount(t *testing.T) {
	for _, f := range truths(3) {
		d := naive(f, []int{1, 2, 4})
		true3 := 0
		for _, value := range f {
			if value {
				true3++
			}
		}
		occur, _ := diagram.Support(d)
		for n := range 8 {
			count, e := diagram.Count(d, n)
			if len(occur) > 0 && n <= slices.Max(occur) {
				if e != api.ErrSize || count != "" {
					t.Errorf("Count(%v, %d) = %s, %d", d, n, count, e)
				}
				continue
			}
			// Of 2^n lists the same part is true as of 2^3.
			if e != api.OK || count != integer.Of(true3<<n>>3) {
				t.Errorf("Count(%v, %d) = %s, %d", d, n, count, e)
			}
		}
	}
	for n := range diagram.MaxCount + 1 {
		want := new(big.Int).Lsh(big.NewInt(1), uint(n)).String()
		yes, e := diagram.Count(diagram.Constant(true), n)
		no, f := diagram.Count(diagram.Constant(false), n)
		if e != api.OK || f != api.OK || string(yes) != want || no != "0" {
			t.Errorf("Count of constants with %d = %s, %d, and %s, %d", n, yes, e, no, f)
		}
	}
	for _, n := range []int{-1, diagram.MaxCount + 1, math.MinInt, math.MaxInt} {
		if count, e := diagram.Count(of(t, "x2000"), n); e != api.ErrRange || count != "" {
			t.Errorf("Count with %d variables = %s, %d", n, count, e)
		}
	}
	if count, e := diagram.Count(of(t, "x1000"), diagram.MaxCount); e != api.ErrSize || count != "" {
		t.Errorf("Count of x1000 = %s, %d", count, e)
	}
}

// P8.6 and P8.7: counts of great diagrams, and of many variables.
func TestCountGreat(t *testing.T) {
	two := big.NewInt(2)
	power := func(base, n int64) *big.Int { return new(big.Int).Exp(big.NewInt(base), big.NewInt(n), nil) }
	for _, n := range []int64{26, 28, 100, 999, 1000} {
		// No pair of 13 is true for 3^13 of the values of 26 variables.
		want := new(big.Int).Sub(power(2, n), new(big.Int).Mul(power(3, 13), power(2, n-26)))
		d := of(t, pairs(13))
		not, _ := diagram.Not(d)
		count, e := diagram.Count(d, int(n))
		other, f := diagram.Count(not, int(n))
		if e != api.OK || f != api.OK || string(count) != want.String() || integer.Add(count, other) != api.Int(power(2, n).String()) {
			t.Errorf("Count(%d) = %s, %d, not %s", n, count, e, want)
		}
	}
	// An odd number of variables is true for half of the values.
	odd := "x0"
	for i := 1; i < 8; i++ {
		odd = "|(&(" + odd + " !" + x(i) + ") &(!" + odd + " " + x(i) + "))"
	}
	if count, e := diagram.Count(of(t, odd), 1000); e != api.OK || string(count) != power(2, 999).String() {
		t.Errorf("Count = %s, %d", count, e)
	}
	d := of(t, list("|", 1000, x))
	want := new(big.Int).Sub(new(big.Int).Exp(two, big.NewInt(1000), nil), big.NewInt(1))
	if count, e := diagram.Count(d, 1000); e != api.OK || string(count) != want.String() {
		t.Errorf("Count = %s, %d", count, e)
	}
}

// P8.6 and P8.7
func TestWitness(t *testing.T) {
	for _, f := range truths(3) {
		d := naive(f, []int{1, 2, 4})
		occur, _ := diagram.Support(d)
		for n := range 8 {
			values, found, e := diagram.Witness(d, n)
			if len(occur) > 0 && n <= slices.Max(occur) {
				if e != api.ErrSize || values != nil || found {
					t.Errorf("Witness(%v, %d) = %v, %t, %d", d, n, values, found, e)
				}
				continue
			}
			var want []bool
			for at := 1<<n - 1; at >= 0; at-- {
				// The values of variables that do not occur do not matter.
				if value(d, d.Root, append(row(at, n), make([]bool, 5)...)) {
					want = row(at, n)
				}
			}
			if e != api.OK || found != slices.Contains(f, true) || !slices.Equal(values, want) {
				t.Errorf("Witness(%v, %d) = %v, %t, %d, not %v", d, n, values, found, e, want)
			}
		}
	}
	for _, n := range []int{-1, formula.MaxVariables + 1, math.MinInt, math.MaxInt} {
		if values, found, e := diagram.Witness(of(t, "x4095"), n); e != api.ErrRange || found || values != nil {
			t.Errorf("Witness with %d variables = %v, %t, %d", n, values, found, e)
		}
	}
	if values, found, e := diagram.Witness(diag{Root: 1}, 0); e != api.OK || !found || len(values) != 0 {
		t.Errorf("Witness of True = %v, %t, %d", values, found, e)
	}
	if values, found, e := diagram.Witness(diag{Root: 1}, 4096); e != api.OK || !found || len(values) != 4096 || slices.Contains(values, true) {
		t.Errorf("Witness of True = %t, %d", found, e)
	}
	all := strings.Replace(list("&", 4096, x), "x0 ", "!x0 ", 1)
	if values, found, e := diagram.Witness(of(t, all), 4096); e != api.OK || !found || values[0] || slices.Contains(values[1:], false) {
		t.Errorf("Witness of all variables but one = %t, %d", found, e)
	}
}
