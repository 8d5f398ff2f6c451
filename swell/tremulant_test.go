package swell_test

import (
	"math"
	"math/big"
	"math/rand"
	"slices"
	"testing"

	"bombarde/api"
	"bombarde/swell"
)

// tremulant returns a tremulant.
func tremulant(period, depth, phase int) swell.Tremulant {
	return swell.Tremulant{Period: period, Depth: depth, Phase: phase}
}

// tremulants returns right tremulants.
func tremulants() []swell.Tremulant {
	l := []swell.Tremulant{
		tremulant(8, 10, 0), tremulant(2, 0, 0), tremulant(2, 1, 1), tremulant(2, 1_000_000, 0), tremulant(10_000, 1_000_000, 9999), tremulant(10_000, 1, 0), tremulant(6, 7, 5), tremulant(10, 999_999, 3),
	}
	random := rand.New(rand.NewSource(233))
	for range 60 {
		period := 2 * (1 + random.Intn(40))
		l = append(l, tremulant(period, random.Intn(1000), random.Intn(period)))
	}
	return l
}

// wrongTremulant is a tremulant that is not right, with its error.
type wrongTremulant struct {
	t swell.Tremulant
	e api.Errno
}

// wrongTremulants returns tremulants that are not right.
func wrongTremulants() []wrongTremulant {
	l := []wrongTremulant{
		{swell.Tremulant{}, api.ErrRange}, {tremulant(1, 0, 0), api.ErrRange}, {tremulant(10_001, 0, 0), api.ErrRange}, {tremulant(10_002, -1, -1), api.ErrRange}, {tremulant(math.MinInt, 0, 0), api.ErrRange}, {tremulant(math.MaxInt, 0, 0), api.ErrRange},
		{tremulant(3, 0, 0), api.ErrForm}, {tremulant(9999, -1, -1), api.ErrForm}, {tremulant(5, 1_000_001, 5), api.ErrForm},
		{tremulant(8, 1_000_001, 0), api.ErrRange}, {tremulant(8, 5, 8), api.ErrRange}, {tremulant(2, 5, 2), api.ErrRange}, {tremulant(8, 1_000_000, 7), api.OK}, {tremulant(10_000, 0, 9999), api.OK},
	}
	for _, n := range []int{-1, -2, math.MinInt, math.MaxInt, 1 << 40} {
		l = append(l, wrongTremulant{tremulant(8, n, 0), api.ErrRange}, wrongTremulant{tremulant(8, 5, n), api.ErrRange}, wrongTremulant{tremulant(n, 5, 0), api.ErrRange})
	}
	return l
}

// deviation calculates a deviation as the chapter says it, in integers of any size.
func deviation(t swell.Tremulant, tick int) int {
	n := func(i int) *big.Int { return big.NewInt(int64(i)) }
	x := new(big.Int).Mod(new(big.Int).Sub(n(tick), n(t.Phase)), n(t.Period))
	magnitude := new(big.Int).Sub(new(big.Int).Mul(n(4), x), n(2*t.Period))
	magnitude.Abs(magnitude)
	product := new(big.Int).Mul(n(t.Depth), new(big.Int).Sub(n(t.Period), magnitude))
	return int(new(big.Int).Quo(product, n(t.Period)).Int64())
}

// P23.3: the example.
func TestShakeOfExample(t *testing.T) {
	for tick, want := range []int{-10, -5, 0, 5, 10, 5, 0, -5, -10} {
		if n, e := swell.Shake(tremulant(8, 10, 0), tick); n != want || e != api.OK {
			t.Errorf("Shake at %d = %d, %d", tick, n, e)
		}
		if n, e := swell.Shake(tremulant(8, 10, 3), tick-5); n != want || e != api.OK {
			t.Errorf("Shake at %d = %d, %d", tick-5, n, e)
		}
	}
	if n, e := swell.Sum(tremulant(8, 10, 0), 0, 8); n != 0 || e != api.OK {
		t.Errorf("Sum = %d, %d", n, e)
	}
}

// P23.3
func TestCheckTremulant(t *testing.T) {
	for _, c := range tremulants() {
		if e := swell.CheckTremulant(c); e != api.OK {
			t.Errorf("CheckTremulant of %v = %d", c, e)
		}
	}
	for _, c := range wrongTremulants() {
		if e := swell.CheckTremulant(c.t); e != c.e {
			t.Errorf("CheckTremulant of %v = %d, not %d", c.t, e, c.e)
		}
		if c.e == api.OK {
			continue
		}
		for _, tick := range []int{0, math.MinInt} {
			n, e := swell.Shake(c.t, tick)
			sum, e2 := swell.Sum(c.t, tick, tick-1)
			if n != 0 || sum != 0 || e != c.e || e2 != c.e {
				t.Errorf("Shake and Sum of %v = %d, %d, %d, %d", c.t, n, e, sum, e2)
			}
		}
	}
}

// P23.3
func TestShake(t *testing.T) {
	ticks := []int{-swell.MaxTick, -swell.MaxTick + 1, swell.MaxTick - 1, swell.MaxTick}
	for tick := -200; tick <= 200; tick++ {
		ticks = append(ticks, tick)
	}
	for _, c := range tremulants() {
		for _, tick := range ticks {
			if n, e := swell.Shake(c, tick); n != deviation(c, tick) || e != api.OK {
				t.Errorf("Shake of %v at %d = %d, %d, not %d", c, tick, n, e, deviation(c, tick))
			}
		}
		begin, _ := swell.Shake(c, c.Phase)
		middle, _ := swell.Shake(c, c.Phase+c.Period/2)
		if begin != -c.Depth || middle != c.Depth {
			t.Errorf("%v: %d at the beginning, %d in the middle", c, begin, middle)
		}
		for _, tick := range slices.Concat(ends(-swell.MaxTick-2), ends(swell.MaxTick+2)) {
			if n, e := swell.Shake(c, tick); n != 0 || e != api.ErrRange {
				t.Errorf("Shake of %v at %d = %d, %d", c, tick, n, e)
			}
		}
	}
}

// P23.3, P23.6: the sum of a period is 0, and sums of ticks that follow each other add up.
func TestSum(t *testing.T) {
	random := rand.New(rand.NewSource(236))
	for _, c := range tremulants() {
		from := random.Intn(200) - 100
		want := 0
		for to := from; to < from+300; to++ {
			if sum, e := swell.Sum(c, from, to); sum != want || e != api.OK {
				t.Fatalf("Sum of %v from %d to %d = %d, %d, not %d", c, from, to, sum, e, want)
			}
			want += deviation(c, to)
		}
		if sum, e := swell.Sum(c, from, from+c.Period); sum != 0 || e != api.OK {
			t.Errorf("Sum of a period of %v = %d, %d", c, sum, e)
		}
		for range 50 {
			ticks := []int{random.Intn(2*swell.MaxTick) - swell.MaxTick, random.Intn(2*swell.MaxTick) - swell.MaxTick, random.Intn(2*swell.MaxTick) - swell.MaxTick}
			slices.Sort(ticks)
			a, _ := swell.Sum(c, ticks[0], ticks[1])
			b, _ := swell.Sum(c, ticks[1], ticks[2])
			if sum, e := swell.Sum(c, ticks[0], ticks[2]); sum != a+b || e != api.OK {
				t.Errorf("Sum of %v at %v = %d, %d, not %d + %d", c, ticks, sum, e, a, b)
			}
		}
		checkSumErrors(t, c)
	}
	long := tremulant(10_000, 1_000_000, 77)
	first, _ := swell.Shake(long, -swell.MaxTick)
	if sum, e := swell.Sum(long, -swell.MaxTick, swell.MaxTick); sum != 0 || e != api.OK {
		t.Errorf("Sum of all ticks = %d, %d", sum, e)
	}
	if sum, e := swell.Sum(long, -swell.MaxTick+1, swell.MaxTick); sum != -first || e != api.OK {
		t.Errorf("Sum of all ticks but the first one = %d, %d, not %d", sum, e, -first)
	}
}

// checkSumErrors compares errors of Sum with what is wanted.
func checkSumErrors(t *testing.T, c swell.Tremulant) {
	t.Helper()
	for _, x := range []struct {
		from, to int
		e        api.Errno
	}{
		{-swell.MaxTick - 1, 0, api.ErrRange}, {0, swell.MaxTick + 1, api.ErrRange}, {swell.MaxTick + 1, 0, api.ErrRange}, {0, -swell.MaxTick - 1, api.ErrRange}, {math.MinInt, math.MaxInt, api.ErrRange}, {math.MaxInt, math.MinInt, api.ErrRange}, {0, math.MinInt, api.ErrRange},
		{1, 0, api.ErrOrder}, {swell.MaxTick, -swell.MaxTick, api.ErrOrder}, {-5, -6, api.ErrOrder}, {-swell.MaxTick, -swell.MaxTick, api.OK}, {swell.MaxTick, swell.MaxTick, api.OK}, {0, 0, api.OK},
	} {
		if sum, e := swell.Sum(c, x.from, x.to); sum != 0 || e != x.e {
			t.Errorf("Sum of %v from %d to %d = %d, %d, not %d", c, x.from, x.to, sum, e, x.e)
		}
	}
}
