package swell

import "bombarde/api"

// Tremulant shakes the wind: a period in ticks, a depth, and the tick at which a period begins.
type Tremulant struct{ Period, Depth, Phase int }

// CheckTremulant returns the error of a tremulant.
func CheckTremulant(t Tremulant) api.Errno {
	switch {
	case !isWithin(t.Period, 2, MaxPeriod):
		return api.ErrRange
	case t.Period%2 != 0:
		return api.ErrForm
	case !isWithin(t.Depth, 0, MaxLevel), !isIndex(t.Phase, t.Period):
		return api.ErrRange
	}
	return api.OK
}

// isTick reports whether a tremulant has a deviation at a tick.
func isTick(tick int) bool { return isWithin(tick, -MaxTick, MaxTick) }

// deviation returns the deviation of a right tremulant at a tick.
func (t Tremulant) deviation(tick int) int {
	x := (tick - t.Phase) % t.Period
	if x < 0 {
		x += t.Period
	}
	return t.Depth * (t.Period - distance(4*x, 2*t.Period)) / t.Period
}

// Shake returns the deviation at a tick.
func Shake(t Tremulant, tick int) (int, api.Errno) {
	if e := CheckTremulant(t); e != api.OK {
		return 0, e
	}
	if !isTick(tick) {
		return 0, api.ErrRange
	}
	return t.deviation(tick), api.OK
}

// Sum returns the sum of the deviations over some ticks.
func Sum(t Tremulant, from, to int) (int, api.Errno) {
	if e := CheckTremulant(t); e != api.OK {
		return 0, e
	}
	switch {
	case !isTick(from) || !isTick(to):
		return 0, api.ErrRange
	case to < from:
		return 0, api.ErrOrder
	}
	// The deviations of the two halves of a period are opposite, so whole periods add up to 0.
	sum := 0
	for k := range (to - from) % t.Period {
		sum += t.deviation(from + k)
	}
	return sum, api.OK
}
