package pitch_test

import (
	"math"
	"math/big"
	"math/rand"
	"slices"
	"testing"

	"bombarde/api"
	"bombarde/fraction"
	"bombarde/pitch"
)

// f returns a fraction.
func f(num, den int) api.Fraction { return api.Fraction{Num: num, Den: den} }

// wrong has feet that are not right, with their errors.
var wrong = []struct {
	feet api.Fraction
	e    api.Errno
}{
	{api.Fraction{}, api.ErrNumber}, {f(8, 0), api.ErrNumber}, {f(8, -1), api.ErrNumber}, {f(16, 6), api.ErrNumber}, {f(0, 2), api.ErrNumber}, {f(1000001, 1), api.ErrNumber}, {f(1, 1000001), api.ErrNumber}, {f(-8, -3), api.ErrNumber},
	{f(math.MinInt, 1), api.ErrNumber}, {f(1, math.MinInt), api.ErrNumber}, {f(math.MaxInt, math.MaxInt), api.ErrNumber}, {f(math.MinInt, math.MinInt), api.ErrNumber},
	{f(0, 1), api.ErrRange}, {f(-8, 1), api.ErrRange}, {f(129, 1), api.ErrRange}, {f(257, 2), api.ErrRange}, {f(1000000, 1), api.ErrRange}, {f(16385, 128), api.ErrRange}, {f(-1, 1000), api.ErrRange}, {f(128*129+1, 129), api.ErrRange},
	{f(1, 129), api.ErrLimit}, {f(128*129-1, 129), api.ErrLimit}, {f(1, 1000000), api.ErrLimit}, {f(1000000, 999999), api.ErrLimit}, {f(1000, 129), api.ErrLimit},
}

// some returns right feet of all sizes.
func some() []api.Fraction {
	l := append(pitch.Usual(), f(128, 1), f(1, 128), f(16383, 128), f(16255, 127), f(127, 1), f(1, 127), f(127, 128), f(128, 127), f(3, 1), f(7, 1), f(9, 1), f(8, 9), f(40, 9))
	r := rand.New(rand.NewSource(13))
	for len(l) < 110 {
		den := 1 + r.Intn(128)
		feet := f(1+r.Intn(128*den), den)
		if pitch.Check(feet) == api.OK {
			l = append(l, feet)
		}
	}
	return l
}

// isShift is the definition of the shift of feet on others.
func isShift(n int, feet, of api.Fraction) bool {
	power := func(r *big.Rat, n int) *big.Rat {
		exponent := big.NewInt(int64(max(n, -n)))
		p := new(big.Rat).SetFrac(new(big.Int).Exp(r.Num(), exponent, nil), new(big.Int).Exp(r.Denom(), exponent, nil))
		if n < 0 {
			p.Inv(p)
		}
		return p
	}
	q := new(big.Rat).Quo(big.NewRat(int64(of.Num), int64(of.Den)), big.NewRat(int64(feet.Num), int64(feet.Den)))
	two := big.NewRat(2, 1)
	return power(q, 24).Cmp(power(two, 2*n-1)) > 0 && power(q, 24).Cmp(power(two, 2*n+1)) < 0
}

// P13.1
func TestCheck(t *testing.T) {
	for _, feet := range some() {
		if e := pitch.Check(feet); e != api.OK {
			t.Errorf("Check(%v) = %d", feet, e)
		}
	}
	for _, c := range wrong {
		if e := pitch.Check(c.feet); e != c.e {
			t.Errorf("Check(%v) = %d, not %d", c.feet, e, c.e)
		}
	}
}

// P13.1, P13.2, P13.4, P13.5
func TestWrongFeet(t *testing.T) {
	for i, c := range wrong {
		other := wrong[len(wrong)-1-i]
		if h, e := pitch.Harmonic(c.feet); h != (api.Fraction{}) || e != c.e {
			t.Errorf("Harmonic(%v) = %v, %d", c.feet, h, e)
		}
		if s, e := pitch.Class(c.feet); s != "" || e != c.e {
			t.Errorf("Class(%v) = %q, %d", c.feet, s, e)
		}
		if is, e := pitch.IsMutation(c.feet); is || e != c.e {
			t.Errorf("IsMutation(%v) = %t, %d", c.feet, is, e)
		}
		for _, key := range []int{60, -1, 128} {
			if n, is, e := pitch.Sounding(c.feet, key); n != 0 || is || e != c.e {
				t.Errorf("Sounding(%v, %d) = %d, %t, %d", c.feet, key, n, is, e)
			}
		}
		for _, p := range []struct {
			a, b api.Fraction
			e    api.Errno
		}{{c.feet, f(8, 1), c.e}, {f(8, 3), c.feet, c.e}, {c.feet, other.feet, c.e}} {
			if n, e := pitch.Shift(p.a, p.b); n != 0 || e != p.e {
				t.Errorf("Shift(%v, %v) = %d, %d", p.a, p.b, n, e)
			}
			if is, e := pitch.Exact(p.a, p.b); is || e != p.e {
				t.Errorf("Exact(%v, %v) = %t, %d", p.a, p.b, is, e)
			}
			if n, e := pitch.Compare(p.a, p.b); n != 0 || e != p.e {
				t.Errorf("Compare(%v, %v) = %d, %d", p.a, p.b, n, e)
			}
		}
	}
}

// P13.1
func TestHarmonic(t *testing.T) {
	for feet, want := range map[api.Fraction]api.Fraction{f(8, 1): f(1, 1), f(8, 3): f(3, 1), f(16, 1): f(1, 2), f(16, 7): f(7, 2), f(128, 1): f(1, 16), f(1, 128): f(1024, 1), f(16383, 128): f(1024, 16383), f(64, 3): f(3, 8)} {
		if h, e := pitch.Harmonic(feet); h != want || e != api.OK {
			t.Errorf("Harmonic(%v) = %v, %d", feet, h, e)
		}
	}
	for _, feet := range some() {
		h, e := pitch.Harmonic(feet)
		if product, g := fraction.Mul(h, feet); product != f(8, 1) || e != api.OK || g != api.OK {
			t.Errorf("Harmonic(%v) = %v, %d", feet, h, e)
		}
	}
}

// P13.2
func TestShift(t *testing.T) {
	for _, c := range []struct {
		feet, of api.Fraction
		n        int
		exact    bool
	}{
		{f(8, 3), f(8, 1), 19, false}, {f(8, 5), f(8, 1), 28, false}, {f(16, 7), f(8, 1), 22, false}, {f(16, 1), f(8, 1), -12, true}, {f(8, 3), f(4, 1), 7, false}, {f(8, 3), f(16, 3), 12, true},
		{f(8, 1), f(8, 1), 0, true}, {f(1, 128), f(128, 1), 168, true}, {f(128, 1), f(1, 128), -168, true}, {f(16383, 128), f(16255, 127), 0, false}, {f(16383, 128), f(1, 127), -168, false}, {f(1, 127), f(16383, 128), 168, false}, {f(10, 7), f(20, 7), 12, true}, {f(20, 7), f(5, 14), -36, true},
	} {
		if n, e := pitch.Shift(c.feet, c.of); n != c.n || e != api.OK {
			t.Errorf("Shift(%v, %v) = %d, %d", c.feet, c.of, n, e)
		}
		if is, e := pitch.Exact(c.feet, c.of); is != c.exact || e != api.OK {
			t.Errorf("Exact(%v, %v) = %t, %d", c.feet, c.of, is, e)
		}
	}
	for _, a := range some() {
		for _, b := range some() {
			n, e := pitch.Shift(a, b)
			if !isShift(n, a, b) || e != api.OK {
				t.Errorf("Shift(%v, %v) = %d, %d", a, b, n, e)
			}
			exact := false
			for octave := -14; octave <= 14; octave++ {
				num, den := b.Num*a.Den, b.Den*a.Num
				exact = exact || num<<max(0, octave) == den<<max(0, -octave)
			}
			if is, e := pitch.Exact(a, b); is != exact || e != api.OK {
				t.Errorf("Exact(%v, %v) = %t, %d", a, b, is, e)
			}
		}
	}
}

// P13.2
func TestShiftNearTheMiddle(t *testing.T) {
	// Quotients whose power is as near as can be to an odd power of 2, on both sides of it.
	r := rand.New(rand.NewSource(13))
	for n := -40; n < 40; n++ {
		for range 12 {
			num := 1 + r.Intn(1600)
			low, high := 1, 16384 // the quotient of high and num has a greater power, or is at the limit
			for low+1 < high {
				middle := (low + high) / 2
				power := new(big.Int).Exp(big.NewInt(int64(middle)), big.NewInt(24), nil)
				bound := new(big.Int).Exp(big.NewInt(int64(num)), big.NewInt(24), nil)
				power.Lsh(power, uint(max(0, -2*n-1)))
				if power.Cmp(bound.Lsh(bound, uint(max(0, 2*n+1)))) > 0 {
					high = middle
				} else {
					low = middle
				}
			}
			for _, den := range []int{low, high} {
				feet, _ := fraction.Make(num, 128)
				of, _ := fraction.Make(den, 128)
				k, e := pitch.Shift(feet, of)
				if !isShift(k, feet, of) || e != api.OK {
					t.Errorf("Shift(%v, %v) = %d, %d", feet, of, k, e)
				}
			}
		}
	}
}

// P13.3
func TestUsualAndFeet(t *testing.T) {
	var want []api.Fraction
	for _, s := range []string{"64", "32", "21 1/3", "16", "12 4/5", "10 2/3", "8", "6 2/5", "5 1/3", "4", "3 1/5", "2 2/3", "2 2/7", "2", "1 3/5", "1 1/3", "1 1/7", "1", "4/5", "2/3", "1/2", "1/4"} {
		feet, _ := fraction.Parse(s)
		want = append(want, feet)
	}
	l := pitch.Usual()
	if !slices.Equal(l, want) {
		t.Errorf("Usual = %v", l)
	}
	l[0] = f(1, 3)
	if !slices.Equal(pitch.Usual(), want) {
		t.Errorf("Usual after a change of its result = %v", pitch.Usual())
	}
	shifts := map[int]api.Fraction{}
	for _, feet := range want {
		n, _ := pitch.Shift(feet, f(8, 1))
		shifts[n] = feet
	}
	if shifts[19] != f(8, 3) || shifts[22] != f(16, 7) || shifts[60] != f(1, 4) || shifts[-36] != f(64, 1) || len(shifts) != len(want) {
		t.Errorf("shifts %v", shifts)
	}
	for n := -200; n <= 200; n++ {
		feet, is := shifts[n]
		if got, e := pitch.Feet(n); got != feet || (e == api.OK) != is || !is && e != api.ErrNone {
			t.Errorf("Feet(%d) = %v, %d", n, got, e)
		}
	}
	for _, n := range []int{math.MinInt, math.MaxInt} {
		if got, e := pitch.Feet(n); got != (api.Fraction{}) || e != api.ErrNone {
			t.Errorf("Feet(%d) = %v, %d", n, got, e)
		}
	}
}

// class is the definition of the class of feet.
func class(feet api.Fraction) string {
	harmonic, _ := fraction.Div(f(8, 1), feet)
	for harmonic.Num%2 == 0 {
		harmonic.Num /= 2
	}
	for harmonic.Den%2 == 0 {
		harmonic.Den /= 2
	}
	name, is := map[api.Fraction]string{f(1, 1): "unison", f(3, 1): "quint", f(5, 1): "tierce", f(7, 1): "septieme"}[harmonic]
	if !is {
		return "other"
	}
	return name
}

// P13.4
func TestClass(t *testing.T) {
	for feet, want := range map[api.Fraction]string{f(8, 1): "unison", f(128, 1): "unison", f(1, 128): "unison", f(8, 3): "quint", f(64, 3): "quint", f(8, 5): "tierce", f(16, 7): "septieme", f(8, 9): "other", f(3, 1): "other", f(3, 5): "other", f(5, 3): "other", f(12, 1): "other", f(8, 15): "other", f(7, 1): "other"} {
		if s, e := pitch.Class(feet); s != want || e != api.OK {
			t.Errorf("Class(%v) = %q, %d", feet, s, e)
		}
	}
	for _, feet := range some() {
		if s, e := pitch.Class(feet); s != class(feet) || e != api.OK {
			t.Errorf("Class(%v) = %q, %d", feet, s, e)
		}
		if is, e := pitch.IsMutation(feet); is != (class(feet) != "unison") || e != api.OK {
			t.Errorf("IsMutation(%v) = %t, %d", feet, is, e)
		}
	}
}

// P13.4
func TestCompare(t *testing.T) {
	for _, a := range some() {
		for _, b := range some() {
			want := big.NewRat(int64(b.Num), int64(b.Den)).Cmp(big.NewRat(int64(a.Num), int64(a.Den)))
			if n, e := pitch.Compare(a, b); n != want || e != api.OK {
				t.Errorf("Compare(%v, %v) = %d, %d", a, b, n, e)
			}
		}
	}
	if n, e := pitch.Compare(f(4, 1), f(8, 1)); n != 1 || e != api.OK {
		t.Errorf("Compare of 4 and 8 feet = %d, %d", n, e)
	}
}

// P13.5
func TestSounding(t *testing.T) {
	for _, c := range []struct {
		feet api.Fraction
		key  int
		note int
		is   bool
	}{{f(16, 1), 60, 48, true}, {f(16, 1), 5, 0, false}, {f(16, 1), 12, 0, true}, {f(16, 1), 11, 0, false}, {f(8, 1), 127, 127, true}, {f(8, 1), 0, 0, true}, {f(4, 1), 115, 127, true}, {f(4, 1), 116, 0, false}, {f(8, 3), 60, 79, true}, {f(1, 128), 7, 127, true}, {f(1, 128), 8, 0, false}, {f(128, 1), 127, 79, true}} {
		if n, is, e := pitch.Sounding(c.feet, c.key); n != c.note || is != c.is || e != api.OK {
			t.Errorf("Sounding(%v, %d) = %d, %t, %d", c.feet, c.key, n, is, e)
		}
	}
	for _, key := range []int{-1, 128, math.MinInt, math.MaxInt} {
		if n, is, e := pitch.Sounding(f(8, 1), key); n != 0 || is || e != api.ErrRange {
			t.Errorf("Sounding(%d) = %d, %t, %d", key, n, is, e)
		}
	}
	for _, feet := range some() {
		shift, _ := pitch.Shift(feet, f(8, 1))
		for key := range api.MaxNote + 1 {
			want, wantIs := key+shift, true
			if want < 0 || want > api.MaxNote {
				want, wantIs = 0, false
			}
			if n, is, e := pitch.Sounding(feet, key); n != want || is != wantIs || e != api.OK {
				t.Errorf("Sounding(%v, %d) = %d, %t, %d", feet, key, n, is, e)
			}
		}
	}
}

// P13.6
func TestConsequences(t *testing.T) {
	for _, a := range some() {
		if n, _ := pitch.Shift(a, a); n != 0 {
			t.Errorf("Shift of %v on itself = %d", a, n)
		}
		half, e := fraction.Div(a, f(2, 1))
		if e == api.OK && pitch.Check(half) == api.OK {
			n, _ := pitch.Shift(a, f(8, 1))
			m, _ := pitch.Shift(half, f(8, 1))
			x, _ := pitch.Class(a)
			y, _ := pitch.Class(half)
			if m != n+12 || x != y {
				t.Errorf("%v has the shift %d and is %s, half of it %d and %s", a, n, x, m, y)
			}
		}
		for _, b := range some() {
			n, _ := pitch.Shift(a, b)
			m, _ := pitch.Shift(b, a)
			exact, _ := pitch.Exact(a, b)
			if n != -m {
				t.Errorf("%v and %v have the shifts %d and %d", a, b, n, m)
			}
			x, _ := pitch.Shift(a, f(4, 3))
			y, _ := pitch.Shift(b, f(4, 3))
			if higher, _ := pitch.Compare(a, b); higher > 0 && x < y || exact && x != n+y {
				t.Errorf("%v and %v have the shifts %d and %d", a, b, x, y)
			}
		}
	}
	last := math.MinInt
	for _, feet := range pitch.Usual() {
		n, _ := pitch.Shift(feet, f(8, 1))
		if again, e := pitch.Feet(n); n <= last || again != feet || e != api.OK {
			t.Errorf("%v has the shift %d, whose feet are %v, %d", feet, n, again, e)
		}
		last = n
	}
}
