package swell_test

import (
	"math"
	"math/rand"
	"reflect"
	"slices"
	"testing"

	"bombarde/api"
	"bombarde/swell"
)

// reg returns a registration.
func reg(stops ...uint64) api.Registration { return api.Registration{Stops: stops} }

// example returns the table of the chapter's example; the second division has no box.
func example() swell.Table {
	return swell.Table{Stops: [][]int{{100, 200}, {50}}, Boxes: []swell.Box{chapter(), {}}}
}

// randomTable returns a right table.
func randomTable(random *rand.Rand) swell.Table {
	var t swell.Table
	for range random.Intn(9) {
		var stops []int
		for range random.Intn(7) {
			stops = append(stops, random.Intn(50))
		}
		t.Stops = append(t.Stops, stops)
		b := swell.Box{}
		if random.Intn(3) > 0 {
			b = boxes()[random.Intn(20)]
		}
		t.Boxes = append(t.Boxes, b)
	}
	return t
}

// randomDrawn returns a registration of a table.
func randomDrawn(random *rand.Rand, t swell.Table) api.Registration {
	r := api.Registration{Couplers: random.Uint64(), Off: random.Uint64()}
	for _, stops := range t.Stops {
		r.Stops = append(r.Stops, random.Uint64()&(1<<len(stops)-1))
	}
	return r
}

// randomStages returns stages of the boxes of a table.
func randomStages(random *rand.Rand, t swell.Table) []int {
	var l []int
	for _, b := range t.Boxes {
		l = append(l, random.Intn(max(1, len(b.Levels))))
	}
	return l
}

// loudness calculates the loudness of a registration as the chapter says it.
func loudness(t swell.Table, r api.Registration, stages []int) int {
	all := 0
	for i := range t.Stops {
		sum := 0
		for k, n := range t.Stops[i] {
			sum += n * int(r.Stops[i]>>k&1)
		}
		level := 1000
		if len(t.Boxes[i].Levels) > 0 {
			level = t.Boxes[i].Levels[stages[i]]
		}
		all += sum * level / 1000
	}
	return all
}

// wrongTable is a table that is not right, with its error.
type wrongTable struct {
	t swell.Table
	e api.Errno
}

// wrongTables returns tables that are not right.
func wrongTables() []wrongTable {
	table := func(stops [][]int, boxes ...swell.Box) swell.Table {
		return swell.Table{Stops: stops, Boxes: boxes}
	}
	none := swell.Box{}
	l := []wrongTable{
		{table(make([][]int, 9)), api.ErrLimit}, {table(make([][]int, 9), make([]swell.Box, 9)...), api.ErrLimit},
		{table(make([][]int, 2)), api.ErrSize}, {table([][]int{{-1}}), api.ErrSize}, {table(nil, none), api.ErrSize}, {table([][]int{{-1}}, none, none), api.ErrSize}, {table(make([][]int, 8), make([]swell.Box, 9)...), api.ErrSize},
		{table([][]int{make([]int, 61)}, none), api.ErrLimit}, {table([][]int{slices.Repeat([]int{-1}, 61)}, box(-1)), api.ErrLimit}, {table([][]int{{0}, make([]int, 61)}, none, none), api.ErrLimit},
		{table([][]int{{0, -1}}, box(1, 0)), api.ErrRange}, {table([][]int{{1_000_001}}, box(1, 0)), api.ErrRange}, {table([][]int{{math.MinInt}}, none), api.ErrRange}, {table([][]int{{math.MaxInt}, make([]int, 61)}, none, none), api.ErrRange}, {table([][]int{{0}, {0, 0, -1}}, none, none), api.ErrRange},
		{table([][]int{{0}, {-1}}, box(1, 0), none), api.ErrOrder}, {table([][]int{{0}, make([]int, 61)}, swell.Box{Levels: make([]int, 65)}, none), api.ErrLimit}, {table([][]int{{-1}, {0}}, none, box(1, 0)), api.ErrRange},
	}
	for _, c := range wrongBoxes() {
		if c.e != api.ErrEmpty {
			l = append(l, wrongTable{table([][]int{nil, {5}}, none, c.b), c.e})
		}
	}
	return l
}

// P23.4
func TestCheckTable(t *testing.T) {
	random := rand.New(rand.NewSource(234))
	for range 100 {
		if c := randomTable(random); swell.CheckTable(c) != api.OK {
			t.Errorf("CheckTable of %v = %d", c, swell.CheckTable(c))
		}
	}
	full := slices.Repeat([]int{swell.MaxLevel}, api.MaxStops)
	for _, c := range []swell.Table{{}, {Stops: [][]int{}, Boxes: []swell.Box{}}, {Stops: make([][]int, 8), Boxes: make([]swell.Box, 8)}, {Stops: [][]int{full}, Boxes: []swell.Box{{Levels: []int{}}}}, example()} {
		if e := swell.CheckTable(c); e != api.OK {
			t.Errorf("CheckTable of %v = %d", c, e)
		}
	}
	for _, c := range wrongTables() {
		if e := swell.CheckTable(c.t); e != c.e {
			t.Errorf("CheckTable of %v = %d, not %d", c.t, e, c.e)
		}
		for _, r := range []api.Registration{{}, reg(1), reg(0, 0)} {
			n, e := swell.Loudness(c.t, r, []int{7})
			l, e2 := swell.Order(c.t, []api.Registration{r})
			if n != 0 || len(l) != 0 || e != c.e || e2 != c.e {
				t.Errorf("Loudness and Order of %v = %d, %d, %v, %d", c.t, n, e, l, e2)
			}
		}
	}
}

// P23.5: the example.
func TestLoudnessOfExample(t *testing.T) {
	for _, c := range []struct {
		r      api.Registration
		stages []int
		want   int
	}{
		{reg(3, 1), []int{2, 0}, 230}, {reg(3, 1), []int{3, 0}, 350}, {reg(3, 1), []int{0, 0}, 80}, {reg(0, 0), []int{3, 0}, 0}, {reg(2, 0), []int{1, 0}, 60}, {api.Registration{Stops: []uint64{1, 1}, Couplers: 7, Off: 255}, []int{3, 0}, 150},
	} {
		if n, e := swell.Loudness(example(), c.r, c.stages); n != c.want || e != api.OK {
			t.Errorf("Loudness of %v at %v = %d, %d", c.r, c.stages, n, e)
		}
	}
}

// P23.5, P23.6: more stops, and stages that are opened more, make nothing softer.
func TestLoudness(t *testing.T) {
	random := rand.New(rand.NewSource(235))
	for range 500 {
		c := randomTable(random)
		r, stages := randomDrawn(random, c), randomStages(random, c)
		n, e := swell.Loudness(c, r, stages)
		if n != loudness(c, r, stages) || e != api.OK {
			t.Errorf("Loudness of %v in %v at %v = %d, %d, not %d", r, c, stages, n, e, loudness(c, r, stages))
		}
		more, other := api.Registration{Stops: slices.Clone(r.Stops)}, slices.Clone(stages)
		for i, next := range randomDrawn(random, c).Stops {
			more.Stops[i] |= next
			other[i] = max(stages[i], randomStages(random, c)[i])
		}
		if m, e := swell.Loudness(c, more, stages); m < n || e != api.OK {
			t.Errorf("Loudness of more stops = %d, %d, less than %d", m, e, n)
		}
		if m, e := swell.Loudness(c, r, other); m < n || e != api.OK {
			t.Errorf("Loudness of other stages = %d, %d, less than %d", m, e, n)
		}
	}
	full := swell.Table{Stops: slices.Repeat([][]int{slices.Repeat([]int{swell.MaxLevel}, 60)}, 8), Boxes: slices.Repeat([]swell.Box{box(1, 999, 1000)}, 8)}
	for stage, want := range []int{8 * 60_000, 8 * 59_940_000, 8 * 60_000_000} {
		if n, e := swell.Loudness(full, reg(slices.Repeat([]uint64{1<<60 - 1}, 8)...), slices.Repeat([]int{stage}, 8)); n != want || e != api.OK {
			t.Errorf("the greatest Loudness at the stage %d = %d, %d", stage, n, e)
		}
	}
	if n, e := swell.Loudness(swell.Table{}, reg(), nil); n != 0 || e != api.OK {
		t.Errorf("Loudness without divisions = %d, %d", n, e)
	}
}

// P23.5: the errors of Loudness, in their order.
func TestLoudnessErrors(t *testing.T) {
	for _, c := range []struct {
		r      api.Registration
		stages []int
		e      api.Errno
	}{
		{reg(), nil, api.ErrSize}, {reg(3), []int{0, 0}, api.ErrSize}, {reg(3, 1, 0), []int{0, 0}, api.ErrSize}, {reg(8), []int{9, 9}, api.ErrSize},
		{reg(4, 0), []int{0, 0}, api.ErrUnknown}, {reg(0, 2), nil, api.ErrUnknown}, {reg(1<<63, 0), []int{9, 9}, api.ErrUnknown}, {reg(3, 1<<60), []int{0}, api.ErrUnknown}, {reg(math.MaxUint64, 0), []int{0}, api.ErrUnknown},
		{reg(3, 1), nil, api.ErrSize}, {reg(3, 1), []int{9}, api.ErrSize}, {reg(3, 1), []int{0, 0, 9}, api.ErrSize},
		{reg(3, 1), []int{4, 0}, api.ErrRange}, {reg(3, 1), []int{-1, 0}, api.ErrRange}, {reg(3, 1), []int{0, 1}, api.ErrRange}, {reg(3, 1), []int{0, -1}, api.ErrRange}, {reg(3, 1), []int{math.MinInt, 0}, api.ErrRange}, {reg(3, 1), []int{3, math.MaxInt}, api.ErrRange},
	} {
		if n, e := swell.Loudness(example(), c.r, c.stages); n != 0 || e != c.e {
			t.Errorf("Loudness of %v at %v = %d, %d, not %d", c.r, c.stages, n, e, c.e)
		}
	}
}

// P23.5
func TestOrder(t *testing.T) {
	random := rand.New(rand.NewSource(237))
	for range 200 {
		c := randomTable(random)
		var last []int
		for _, b := range c.Boxes {
			last = append(last, max(0, len(b.Levels)-1))
		}
		var l []api.Registration
		var want []int
		for i := range random.Intn(40) {
			l = append(l, randomDrawn(random, c))
			// A registration goes behind all that are not louder.
			at := len(want)
			for at > 0 && loudness(c, l[want[at-1]], last) > loudness(c, l[i], last) {
				at--
			}
			want = slices.Insert(want, at, i)
		}
		if order, e := swell.Order(c, l); !slices.Equal(order, want) || e != api.OK {
			t.Errorf("Order of %v in %v = %v, %d, not %v", l, c, order, e, want)
		}
	}
	l := []api.Registration{reg(3, 1), reg(0, 1), reg(1, 0), reg(0, 1), reg(2, 0), reg(0, 0)}
	if order, e := swell.Order(example(), l); !slices.Equal(order, []int{5, 1, 3, 2, 4, 0}) || e != api.OK {
		t.Errorf("Order = %v, %d", order, e)
	}
	if order, e := swell.Order(swell.Table{}, make([]api.Registration, 3)); !slices.Equal(order, []int{0, 1, 2}) || e != api.OK {
		t.Errorf("Order = %v, %d", order, e)
	}
	if order, e := swell.Order(example(), nil); len(order) != 0 || e != api.OK {
		t.Errorf("Order of no registrations = %v, %d", order, e)
	}
}

// P23.5: the errors of Order are those of the first registration that is wrong.
func TestOrderErrors(t *testing.T) {
	for _, c := range []struct {
		l []api.Registration
		e api.Errno
	}{
		{[]api.Registration{reg()}, api.ErrSize}, {[]api.Registration{reg(3, 1), reg(3)}, api.ErrSize}, {[]api.Registration{reg(4, 0)}, api.ErrUnknown}, {[]api.Registration{reg(0, 0), reg(0, 2), reg()}, api.ErrUnknown}, {[]api.Registration{reg(0, 0), reg(), reg(0, 2)}, api.ErrSize}, {[]api.Registration{reg(4, 0, 0)}, api.ErrSize},
	} {
		if l, e := swell.Order(example(), c.l); len(l) != 0 || e != c.e {
			t.Errorf("Order of %v = %v, %d, not %d", c.l, l, e, c.e)
		}
	}
}

// P23.1 to P23.5: arguments are not modified.
func TestMemory(t *testing.T) {
	b, moves := chapter(), []swell.Move{move(10, 3, 5), move(22, 0, 2)}
	table, r, stages := example(), reg(3, 1), []int{2, 0}
	registrations := []api.Registration{reg(3, 1), reg(0, 0), reg(1, 0)}
	for range 2 {
		swell.Level(b, 1)
		swell.Nearest(b, 450)
		swell.Stage(b, moves, 30)
		swell.Arrival(b, moves)
		swell.Loudness(table, r, stages)
		order, e := swell.Order(table, registrations)
		if !slices.Equal(order, []int{1, 2, 0}) || e != api.OK {
			t.Errorf("Order = %v, %d", order, e)
		}
		clear(order)
	}
	if !reflect.DeepEqual(b, chapter()) || !slices.Equal(moves, []swell.Move{move(10, 3, 5), move(22, 0, 2)}) || !reflect.DeepEqual(table, example()) || !reflect.DeepEqual(r, reg(3, 1)) || !slices.Equal(stages, []int{2, 0}) || !reflect.DeepEqual(registrations, []api.Registration{reg(3, 1), reg(0, 0), reg(1, 0)}) {
		t.Error("arguments are changed")
	}
}
