package swell_test

import (
	"math"
	"math/rand"
	"slices"
	"testing"

	"bombarde/api"
	"bombarde/swell"
)

// box returns a box.
func box(levels ...int) swell.Box { return swell.Box{Levels: levels} }

// chapter returns the box of the chapter's example.
func chapter() swell.Box { return box(100, 300, 600, 1000) }

// move returns a movement.
func move(tick, stage, pace int) swell.Move {
	return swell.Move{Tick: tick, Stage: stage, Pace: pace}
}

// ends are ints at the ends of the range, and near to a number.
func ends(n int) []int {
	return []int{math.MinInt, math.MinInt + 1, -1 << 40, n - 1, n, n + 1, 1 << 40, math.MaxInt - 1, math.MaxInt}
}

// wrongBox is a box that is not right, with its error.
type wrongBox struct {
	b swell.Box
	e api.Errno
}

// wrongBoxes returns boxes that are not right.
func wrongBoxes() []wrongBox {
	return []wrongBox{
		{box(), api.ErrEmpty}, {swell.Box{Levels: []int{}}, api.ErrEmpty}, {swell.Box{Levels: make([]int, 65)}, api.ErrLimit}, {swell.Box{Levels: slices.Repeat([]int{-1}, 65)}, api.ErrLimit},
		{box(-1), api.ErrRange}, {box(1001), api.ErrRange}, {box(math.MinInt), api.ErrRange}, {box(math.MaxInt), api.ErrRange}, {box(0, 1001), api.ErrRange}, {box(5, -1), api.ErrRange}, {box(5, -1, 4), api.ErrRange},
		{box(5, 4), api.ErrOrder}, {box(5, 4, -1), api.ErrOrder}, {box(0, 1000, 999), api.ErrOrder}, {box(1, 0, 1001), api.ErrOrder}, {box(0, 5, 5, 4), api.ErrOrder}, {box(0, 1001, 0), api.ErrRange},
	}
}

// boxes returns right boxes.
func boxes() []swell.Box {
	l := []swell.Box{chapter(), box(0), box(1000), box(0, 0, 0), box(0, 1000), box(500, 500, 501, 501, 1000), {Levels: make([]int, 64)}}
	random := rand.New(rand.NewSource(231))
	for range 60 {
		var b swell.Box
		for range 1 + random.Intn(64) {
			b.Levels = append(b.Levels, random.Intn(1001))
		}
		slices.Sort(b.Levels)
		l = append(l, b)
	}
	return l
}

// P23.1
func TestCheck(t *testing.T) {
	if swell.MaxStages != 64 || swell.MaxLevel != 1_000_000 || swell.MaxPeriod != 10_000 || swell.MaxMoves != 1000 || swell.MaxTick != 1_000_000_000 {
		t.Error("the limits are wrong")
	}
	for _, c := range wrongBoxes() {
		if e := swell.Check(c.b); e != c.e {
			t.Errorf("Check of %v = %d, not %d", c.b, e, c.e)
		}
	}
	for _, b := range boxes() {
		if e := swell.Check(b); e != api.OK {
			t.Errorf("Check of %v = %d", b, e)
		}
	}
}

// P23.1
func TestLevel(t *testing.T) {
	for _, b := range boxes() {
		for stage, want := range b.Levels {
			if level, e := swell.Level(b, stage); level != want || e != api.OK {
				t.Errorf("Level %d of %v = %d, %d", stage, b, level, e)
			}
		}
		for _, stage := range append(ends(-2), ends(len(b.Levels)+1)...) {
			if level, e := swell.Level(b, stage); level != 0 || e != api.ErrRange {
				t.Errorf("Level %d of %v = %d, %d", stage, b, level, e)
			}
		}
	}
	for _, c := range wrongBoxes() {
		for _, stage := range []int{0, -1, 100} {
			if level, e := swell.Level(c.b, stage); level != 0 || e != c.e {
				t.Errorf("Level %d of %v = %d, %d", stage, c.b, level, e)
			}
		}
	}
}

// isNearest reports whether no stage is nearer to a level, and no lesser one as near.
func isNearest(b swell.Box, level, stage int) bool {
	far := func(i int) int { return max(b.Levels[i]-level, level-b.Levels[i]) }
	for i := range b.Levels {
		if far(i) < far(stage) || i < stage && far(i) == far(stage) {
			return false
		}
	}
	return true
}

// P23.1, P23.6
func TestNearest(t *testing.T) {
	for level, want := range map[int]int{0: 0, 100: 0, 200: 0, 201: 1, 300: 1, 450: 1, 451: 2, 600: 2, 800: 2, 801: 3, 1000: 3} {
		if stage, e := swell.Nearest(chapter(), level); stage != want || e != api.OK {
			t.Errorf("Nearest to %d = %d, %d", level, stage, e)
		}
	}
	for _, b := range boxes() {
		for level := 0; level <= 1000; level++ {
			if stage, e := swell.Nearest(b, level); e != api.OK || !isNearest(b, level, stage) {
				t.Errorf("Nearest to %d of %v = %d, %d", level, b, stage, e)
			}
		}
		for _, level := range b.Levels {
			stage, _ := swell.Nearest(b, level)
			if same, e := swell.Level(b, stage); same != level || e != api.OK {
				t.Errorf("the level nearest to %d of %v is %d, %d", level, b, same, e)
			}
		}
		for _, level := range append(ends(-2), ends(1002)...) {
			if stage, e := swell.Nearest(b, level); stage != 0 || e != api.ErrRange {
				t.Errorf("Nearest to %d of %v = %d, %d", level, b, stage, e)
			}
		}
	}
	for _, c := range wrongBoxes() {
		for _, level := range []int{0, 1000, -1, 1001} {
			if stage, e := swell.Nearest(c.b, level); stage != 0 || e != c.e {
				t.Errorf("Nearest to %d of %v = %d, %d", level, c.b, stage, e)
			}
		}
	}
}

// wrongMoves is movements of the chapter's box that are not right, with their error.
type wrongMoves struct {
	l []swell.Move
	e api.Errno
}

// manyMoves returns so many right movements.
func manyMoves(n int) []swell.Move {
	var l []swell.Move
	for i := range n {
		l = append(l, move(3*i, i*i%4, 1+i%3))
	}
	return l
}

// wrongMovesOf returns movements of the chapter's box that are not right.
func wrongMovesOf() []wrongMoves {
	l := []wrongMoves{
		{manyMoves(1001), api.ErrLimit}, {make([]swell.Move, 1001), api.ErrLimit}, {make([]swell.Move, 1000), api.ErrRange},
		{[]swell.Move{move(5, 0, 1), move(5, 0, 1)}, api.ErrOrder}, {[]swell.Move{move(5, 0, 1), move(4, 0, 1)}, api.ErrOrder}, {[]swell.Move{move(1, 1, 1), move(9, 1, 1), move(8, 1, 1), move(10, 9, 1)}, api.ErrOrder},
		{[]swell.Move{move(5, 0, 1), move(5, 4, 1)}, api.ErrRange}, {[]swell.Move{move(5, 0, 1), move(4, 0, 0)}, api.ErrRange}, {[]swell.Move{move(5, 0, 1), move(-1, 0, 1)}, api.ErrRange}, {[]swell.Move{move(5, 0, 0), move(5, 0, 1)}, api.ErrRange},
		{[]swell.Move{move(swell.MaxTick, 0, 1), move(swell.MaxTick+1, 0, 1)}, api.ErrRange},
	}
	for _, n := range append(ends(-2), -1) {
		l = append(l, wrongMoves{[]swell.Move{move(n, 0, 1)}, api.ErrRange}, wrongMoves{[]swell.Move{move(0, n, 1)}, api.ErrRange}, wrongMoves{[]swell.Move{move(0, 0, n)}, api.ErrRange})
	}
	return append(l, wrongMoves{[]swell.Move{move(swell.MaxTick+1, 0, 1)}, api.ErrRange}, wrongMoves{[]swell.Move{move(0, 4, 1)}, api.ErrRange}, wrongMoves{[]swell.Move{move(0, 0, 0)}, api.ErrRange}, wrongMoves{[]swell.Move{move(0, 0, swell.MaxPeriod+1)}, api.ErrRange})
}

// P23.2
func TestCheckMoves(t *testing.T) {
	for _, l := range [][]swell.Move{nil, {}, {move(0, 0, 1)}, {move(swell.MaxTick, 3, swell.MaxPeriod)}, {move(0, 3, 1), move(1, 0, 1), move(swell.MaxTick, 3, 9)}, manyMoves(1000)} {
		if e := swell.CheckMoves(chapter(), l); e != api.OK {
			t.Errorf("CheckMoves of %v = %d", l, e)
		}
	}
	for _, c := range wrongMovesOf() {
		e := swell.CheckMoves(chapter(), c.l)
		stage, e2 := swell.Stage(chapter(), c.l, -1)
		arrival, e3 := swell.Arrival(chapter(), c.l)
		if e != c.e || e2 != c.e || e3 != c.e || stage != 0 || arrival != 0 {
			t.Errorf("%v: the errors are %d, %d, %d, not %d", c.l, e, e2, e3, c.e)
		}
	}
	for _, c := range wrongBoxes() {
		for _, l := range [][]swell.Move{nil, {move(3, 0, 1)}, {move(0, 0, 0)}, make([]swell.Move, 1001)} {
			e := swell.CheckMoves(c.b, l)
			stage, e2 := swell.Stage(c.b, l, -1)
			arrival, e3 := swell.Arrival(c.b, l)
			if e != c.e || e2 != c.e || e3 != c.e || stage != 0 || arrival != 0 {
				t.Errorf("%v, %v: the errors are %d, %d, %d, not %d", c.b, l, e, e2, e3, c.e)
			}
		}
	}
}

// walk returns the stages at the ticks from 0 on, and when the last movement arrives, found tick by tick.
func walk(l []swell.Move, ticks int) (stages []int, arrival int) {
	stage, begun, begin := 0, -1, 0
	arrived := -1
	for tick := range ticks {
		if begun >= 0 {
			m := l[begun]
			if k := tick - m.Tick; k > 0 && k%m.Pace == 0 && stage != m.Stage {
				if stage < m.Stage {
					stage++
				} else {
					stage--
				}
			}
		}
		if begun+1 < len(l) && l[begun+1].Tick == tick {
			begun++
			begin = tick
			arrived = -1
		}
		if begun >= 0 && stage == l[begun].Stage && arrived < 0 {
			arrived = tick
		}
		stages = append(stages, stage)
	}
	if len(l) == 0 {
		return stages, 0
	}
	return stages, max(arrived, begin)
}

// P23.2: the example.
func TestStageOfExample(t *testing.T) {
	l := []swell.Move{move(10, 3, 5), move(22, 0, 2)}
	for tick, want := range map[int]int{0: 0, 9: 0, 10: 0, 14: 0, 15: 1, 19: 1, 20: 2, 22: 2, 23: 2, 24: 1, 25: 1, 26: 0, 27: 0, 1000: 0, 2 * swell.MaxTick: 0} {
		if stage, e := swell.Stage(chapter(), l, tick); stage != want || e != api.OK {
			t.Errorf("Stage at %d = %d, %d", tick, stage, e)
		}
	}
	if tick, e := swell.Arrival(chapter(), l); tick != 26 || e != api.OK {
		t.Errorf("Arrival = %d, %d", tick, e)
	}
	if tick, e := swell.Arrival(chapter(), l[:1]); tick != 25 || e != api.OK {
		t.Errorf("Arrival = %d, %d", tick, e)
	}
}

// P23.2, P23.6: against a walk tick by tick, where a stage differs from the one before by at most 1, and stays behind Arrival.
func TestStage(t *testing.T) {
	random := rand.New(rand.NewSource(232))
	for range 1500 {
		b := boxes()[random.Intn(8)]
		var l []swell.Move
		for tick := random.Intn(4); len(l) < random.Intn(9); tick += 1 + random.Intn(20) {
			l = append(l, move(tick, random.Intn(len(b.Levels)), 1+random.Intn(6)))
		}
		stages, arrival := walk(l, 700)
		for tick, want := range stages {
			stage, e := swell.Stage(b, l, tick)
			if stage != want || e != api.OK {
				t.Fatalf("Stage at %d of %v = %d, %d, not %d", tick, l, stage, e, want)
			}
			if tick > 0 && max(stage-stages[tick-1], stages[tick-1]-stage) > 1 || tick >= arrival && stage != stages[699] {
				t.Fatalf("Stage at %d of %v = %d behind %d", tick, l, stage, stages[tick-1])
			}
		}
		if tick, e := swell.Arrival(b, l); tick != arrival || e != api.OK {
			t.Errorf("Arrival of %v = %d, %d, not %d", l, tick, e, arrival)
		}
	}
}

// P23.2: the ends of the range.
func TestStageEnds(t *testing.T) {
	wide := swell.Box{Levels: make([]int, 64)}
	late := []swell.Move{move(swell.MaxTick, 63, swell.MaxPeriod)}
	for tick, want := range map[int]int{0: 0, swell.MaxTick: 0, swell.MaxTick + 9999: 0, swell.MaxTick + 10000: 1, swell.MaxTick + 629_999: 62, swell.MaxTick + 630_000: 63, 2 * swell.MaxTick: 63} {
		if stage, e := swell.Stage(wide, late, tick); stage != want || e != api.OK {
			t.Errorf("Stage at %d = %d, %d", tick, stage, e)
		}
	}
	if tick, e := swell.Arrival(wide, late); tick != swell.MaxTick+630_000 || e != api.OK {
		t.Errorf("Arrival = %d, %d", tick, e)
	}
	for _, l := range [][]swell.Move{nil, {}, late} {
		for _, tick := range append(ends(-2), -1, 2*swell.MaxTick+1, math.MaxInt) {
			if stage, e := swell.Stage(wide, l, tick); stage != 0 || e != api.ErrRange {
				t.Errorf("Stage at %d = %d, %d", tick, stage, e)
			}
		}
	}
	if tick, e := swell.Arrival(chapter(), nil); tick != 0 || e != api.OK {
		t.Errorf("Arrival without movements = %d, %d", tick, e)
	}
	if tick, e := swell.Arrival(chapter(), []swell.Move{move(7, 0, 9)}); tick != 7 || e != api.OK {
		t.Errorf("Arrival of a movement that is there = %d, %d", tick, e)
	}
}
