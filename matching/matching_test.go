package matching_test

import (
	"math"
	"math/rand"
	"slices"
	"testing"

	"bombarde/api"
	"bombarde/matching"
)

type result = matching.Result

// table returns costs made by a function.
func table(rows, columns int, cost func(row, column int) int) [][]int {
	costs := make([][]int, rows)
	for i := range costs {
		costs[i] = make([]int, columns)
		for k := range costs[i] {
			costs[i][k] = cost(i, k)
		}
	}
	return costs
}

// even returns costs that are all the same.
func even(rows, columns, cost int) [][]int {
	return table(rows, columns, func(row, column int) int { return cost })
}

// clone returns a copy of a table.
func clone(costs [][]int) [][]int {
	c := make([][]int, len(costs))
	for i := range costs {
		c[i] = slices.Clone(costs[i])
	}
	return c
}

// same reports whether two tables are equal.
func same(a, b [][]int) bool { return slices.EqualFunc(a, b, slices.Equal) }

// zero reports whether a result is the zero value.
func zero(r result) bool {
	return len(r.Columns) == 0 && r.Total == 0 && len(r.Rows) == 0 && len(r.Potentials) == 0
}

// randoms returns small tables; those that are not partial have at least as many columns as rows.
func randoms(partial bool) [][][]int {
	r := rand.New(rand.NewSource(7))
	var l [][][]int
	for i := range 1500 {
		rows, columns := i%5, i/5%6
		if rows > columns && (!partial || rows == 0) {
			continue
		}
		if rows == 0 {
			columns = 0
		}
		most := []int{2, 5, 20, matching.MaxCost}[i%4]
		l = append(l, table(rows, columns, func(row, column int) int { return r.Intn(2*most+1) - most }))
	}
	return l
}

// walk calls a function for each assignment with its total, of which each row can be left out at a cost if partial.
func walk(costs [][]int, skip int, partial bool, see func(columns []int, total int)) {
	columns := make([]int, len(costs))
	used := map[int]bool{}
	var choose func(row, total int)
	choose = func(row, total int) {
		if row == len(costs) {
			see(columns, total)
			return
		}
		if partial {
			columns[row] = -1
			choose(row+1, total+skip)
		}
		for column, cost := range costs[row] {
			if !used[column] {
				used[column], columns[row] = true, column
				choose(row+1, total+cost)
				used[column] = false
			}
		}
	}
	choose(0, 0)
}

// least returns the least total of all assignments.
func least(costs [][]int, skip int, partial bool) int {
	best := math.MaxInt
	walk(costs, skip, partial, func(columns []int, total int) { best = min(best, total) })
	return best
}

// prove fails unless a result is an assignment with its total, and has valid potentials whose bound is the total, as the chapter defines them.
func prove(t *testing.T, costs [][]int, skip int, partial bool, r result) {
	t.Helper()
	columns := 0
	if len(costs) > 0 {
		columns = len(costs[0])
	}
	if len(r.Columns) != len(costs) || len(r.Rows) != len(costs) || len(r.Potentials) != columns {
		t.Fatalf("%v: the lengths of %v", costs, r)
	}
	total, bound, used := 0, 0, map[int]bool{}
	for row, column := range r.Columns {
		switch {
		case column == -1 && partial:
			total += skip
		case column < 0 || column >= columns || used[column]:
			t.Fatalf("%v: the columns %v", costs, r.Columns)
		default:
			used[column] = true
			total += costs[row][column]
		}
		bound += r.Rows[row]
		if partial && r.Rows[row] > skip {
			t.Errorf("%v, %d: the potential of the row %d of %v", costs, skip, row, r)
		}
	}
	for column, potential := range r.Potentials {
		bound += potential
		if potential > 0 {
			t.Errorf("%v: the potential of the column %d of %v", costs, column, r)
		}
		for row := range costs {
			if r.Rows[row]+potential > costs[row][column] {
				t.Errorf("%v: the potentials of %d, %d of %v", costs, row, column, r)
			}
		}
	}
	if total != r.Total || bound != r.Total {
		t.Errorf("%v: the total %d, the bound %d of %v", costs, total, bound, r)
	}
}

// wrong has costs that are not right, each with its error; some of them may be partial.
func wrong() []struct {
	costs [][]int
	want  api.Errno
	may   bool
} {
	return []struct {
		costs [][]int
		want  api.Errno
		may   bool
	}{
		{even(matching.MaxRows+1, 70, 0), api.ErrLimit, false},
		{even(matching.MaxRows+1, 0, 0), api.ErrLimit, false},
		{even(1, matching.MaxColumns+1, 0), api.ErrLimit, false},
		{[][]int{make([]int, matching.MaxColumns+1), {1}}, api.ErrLimit, false},
		{[][]int{{1, 2}, {1}}, api.ErrSize, false},
		{[][]int{{1, 2}, {1, 2, 3}}, api.ErrSize, false},
		{[][]int{{1}, {1}, {}}, api.ErrSize, false},
		{[][]int{{}, {1}}, api.ErrSize, false},
		{[][]int{{matching.MaxCost + 1, 2}, make([]int, matching.MaxColumns+1)}, api.ErrSize, false},
		{[][]int{{1}, {1}}, api.ErrOrder, true},
		{[][]int{{}}, api.ErrOrder, true},
		{even(matching.MaxRows, matching.MaxRows-1, matching.MaxCost), api.ErrOrder, true},
		{[][]int{{matching.MaxCost + 1}}, api.ErrRange, false},
		{[][]int{{-matching.MaxCost - 1}}, api.ErrRange, false},
		{[][]int{{0, 0}, {0, math.MaxInt}}, api.ErrRange, false},
		{[][]int{{0, math.MinInt}, {0, 0}}, api.ErrRange, false},
	}
}

// P7.1: all functions return the error of Check first.
func TestCheck(t *testing.T) {
	for i, c := range wrong() {
		if e := matching.Check(c.costs); e != c.want {
			t.Errorf("%d: Check = %d, not %d", i, e, c.want)
		}
		total, e1 := matching.Total(c.costs, []int{7})
		best, e2 := matching.Best(c.costs)
		e3 := matching.Verify(c.costs, result{Total: 1, Columns: []int{9}})
		bound, e4 := matching.Bound(c.costs, []int{1, 2, 3}, nil)
		tight, e5 := matching.Tight(c.costs, []int{1, 2, 3}, nil)
		for k, e := range []api.Errno{e1, e2, e3, e4, e5} {
			if e != c.want {
				t.Errorf("%d: the function %d: %d, not %d", i, k, e, c.want)
			}
		}
		if total != 0 || !zero(best) || bound != 0 || tight != nil {
			t.Errorf("%d: results with an error", i)
		}
		want := c.want
		if c.may {
			want = api.ErrRange // of the cost to skip
		}
		partial, e1 := matching.Partial(c.costs, math.MaxInt)
		e2 = matching.VerifyPartial(c.costs, math.MaxInt, result{})
		if e1 != want || e2 != want || !zero(partial) {
			t.Errorf("%d: Partial = %d, VerifyPartial = %d, not %d", i, e1, e2, want)
		}
	}
	// Both errors of a partial table: the one of the table is first.
	for _, costs := range [][][]int{{{1, 2}, {1}}, {{matching.MaxCost + 1}, {0}}, {{0}, {-matching.MaxCost - 1}}} {
		r, e := matching.Partial(costs, 0)
		if f := matching.VerifyPartial(costs, 0, result{}); e == api.OK || e == api.ErrOrder || e != f || !zero(r) {
			t.Errorf("Partial(%v) = %d, %d", costs, e, f)
		}
	}
	for _, costs := range [][][]int{nil, {}, {{0}}, even(matching.MaxRows, matching.MaxRows, -matching.MaxCost), even(matching.MaxRows, matching.MaxColumns, matching.MaxCost)} {
		if e := matching.Check(costs); e != api.OK {
			t.Errorf("Check of %d rows = %d", len(costs), e)
		}
	}
}

// P7.2
func TestTotal(t *testing.T) {
	costs := [][]int{{4, 1, 3}, {2, 0, 5}}
	for _, c := range []struct {
		columns []int
		want    int
		e       api.Errno
	}{
		{[]int{0, 1}, 4, api.OK},
		{[]int{2, 0}, 5, api.OK},
		{[]int{1, 2}, 6, api.OK},
		{nil, 0, api.ErrSize},
		{[]int{0}, 0, api.ErrSize},
		{[]int{-1, 3, 3}, 0, api.ErrSize},
		{[]int{0, 3}, 0, api.ErrRange},
		{[]int{-1, 0}, 0, api.ErrRange},
		{[]int{0, math.MaxInt}, 0, api.ErrRange},
		{[]int{math.MinInt, 0}, 0, api.ErrRange},
		{[]int{1, 1}, 0, api.ErrDuplicate},
		{[]int{3, 3}, 0, api.ErrRange},
	} {
		if got, e := matching.Total(costs, c.columns); got != c.want || e != c.e {
			t.Errorf("Total(%v) = %d, %d, not %d, %d", c.columns, got, e, c.want, c.e)
		}
	}
	// The errors come in the order of the rows.
	for want, columns := range map[api.Errno][]int{api.ErrDuplicate: {0, 0, 5}, api.ErrRange: {0, 5, 0}} {
		if _, e := matching.Total(even(3, 3, 1), columns); e != want {
			t.Errorf("Total(%v) = %d, not %d", columns, e, want)
		}
	}
	if total, e := matching.Total(nil, nil); total != 0 || e != api.OK {
		t.Errorf("Total of nothing = %d, %d", total, e)
	}
	for _, costs := range randoms(false) {
		walk(costs, 0, false, func(columns []int, total int) {
			if got, e := matching.Total(costs, columns); got != total || e != api.OK {
				t.Errorf("Total(%v, %v) = %d, %d, not %d", costs, columns, got, e, total)
			}
		})
	}
}

// P7.3, P7.4 and P7.7
func TestBest(t *testing.T) {
	for _, costs := range randoms(false) {
		r, e := matching.Best(costs)
		if want := least(costs, 0, false); e != api.OK || r.Total != want {
			t.Errorf("Best(%v) = %v, %d, not %d", costs, r, e, want)
		}
		prove(t, costs, 0, false, r)
		if e := matching.Verify(costs, r); e != api.OK {
			t.Errorf("Verify(%v, %v) = %d", costs, r, e)
		}
	}
}

// P7.6 and P7.7
func TestPartial(t *testing.T) {
	for i, costs := range randoms(true) {
		for _, skip := range []int{0, i%11 - 5, matching.MaxCost, -matching.MaxCost} {
			r, e := matching.Partial(costs, skip)
			if want := least(costs, skip, true); e != api.OK || r.Total != want {
				t.Errorf("Partial(%v, %d) = %v, %d, not %d", costs, skip, r, e, want)
			}
			prove(t, costs, skip, true, r)
			if e := matching.VerifyPartial(costs, skip, r); e != api.OK {
				t.Errorf("VerifyPartial(%v, %d, %v) = %d", costs, skip, r, e)
			}
		}
	}
	for _, skip := range []int{matching.MaxCost + 1, -matching.MaxCost - 1, math.MaxInt, math.MinInt} {
		r, e := matching.Partial([][]int{{1}}, skip)
		if f := matching.VerifyPartial([][]int{{1}}, skip, result{}); e != api.ErrRange || f != api.ErrRange || !zero(r) {
			t.Errorf("the cost %d to skip: %d, %d", skip, e, f)
		}
	}
}

// P7.7: a cost to skip that is greater than all others makes partial assignments whole, if there are enough columns.
func TestWhole(t *testing.T) {
	for _, costs := range randoms(false) {
		most := -matching.MaxCost
		for _, row := range costs {
			most = max(most, slices.Max(row))
		}
		if most == matching.MaxCost {
			continue
		}
		partial, e := matching.Partial(costs, most+1)
		best, f := matching.Best(costs)
		if e != api.OK || f != api.OK || slices.Contains(partial.Columns, -1) || partial.Total != best.Total {
			t.Errorf("Partial(%v, %d) = %v, %d, not %d", costs, most+1, partial, e, best.Total)
		}
	}
}

// P7.7: adding a number to the costs of a row adds it to the least total.
func TestAdded(t *testing.T) {
	for i, costs := range randoms(false) {
		if len(costs) == 0 || i%4 == 3 {
			continue
		}
		best, _ := matching.Best(costs)
		more := clone(costs)
		row := i % len(costs)
		for k := range more[row] {
			more[row][k] += 77 - i
		}
		if r, e := matching.Best(more); e != api.OK || r.Total != best.Total+77-i {
			t.Errorf("Best(%v) = %v, %d, not %d", more, r, e, best.Total+77-i)
		}
	}
}

// P1 and P7.3: tables of all sizes, with costs of all kinds.
func TestGreatest(t *testing.T) {
	r := rand.New(rand.NewSource(8))
	sign := func() int { return matching.MaxCost * (2*r.Intn(2) - 1) }
	var tables [][][]int
	for _, columns := range []int{60, 61, 120} {
		tables = append(tables,
			table(60, columns, func(row, column int) int { return r.Intn(2*matching.MaxCost+1) - matching.MaxCost }),
			table(60, columns, func(row, column int) int { return r.Intn(3) }),
			table(60, columns, func(row, column int) int { return sign() }),
			table(60, columns, func(row, column int) int { return (row + 1) * (column + 1) }),
			table(60, columns, func(row, column int) int { return -(row + 1) * (column + 1) * 100_000 }),
			// In each row the next column costs so much more that the rows before push one another.
			table(60, columns, func(row, column int) int {
				return map[bool]int{true: matching.MaxCost, false: -matching.MaxCost}[column > row]
			}),
			table(60, columns, func(row, column int) int {
				return map[bool]int{true: matching.MaxCost, false: -matching.MaxCost}[column == row]
			}),
			even(60, columns, matching.MaxCost), even(60, columns, -matching.MaxCost))
	}
	for i, costs := range tables {
		best, e := matching.Best(costs)
		if e != api.OK || matching.Verify(costs, best) != api.OK {
			t.Errorf("%d: Best = %v, %d", i, best, e)
		}
		prove(t, costs, 0, false, best)
		for _, skip := range []int{matching.MaxCost, 0, -matching.MaxCost, 12345} {
			r, e := matching.Partial(costs, skip)
			if e != api.OK || matching.VerifyPartial(costs, skip, r) != api.OK {
				t.Errorf("%d: Partial(%d) = %v, %d", i, skip, r, e)
			}
			prove(t, costs, skip, true, r)
		}
	}
	few := even(60, 3, 5)
	if r, e := matching.Partial(few, 6); e != api.OK || r.Total != 3*5+57*6 {
		t.Errorf("three columns for 60 rows: %v, %d", r, e)
	}
	if r, e := matching.Partial(even(60, 0, 0), 6); e != api.OK || r.Total != 360 || matching.VerifyPartial(even(60, 0, 0), 6, r) != api.OK {
		t.Errorf("no columns for 60 rows: %v, %d", r, e)
	}
}

// The examples of the chapter.
func TestExamples(t *testing.T) {
	costs := [][]int{{4, 1, 3}, {2, 0, 5}, {3, 2, 2}}
	best, e := matching.Best(costs)
	if e != api.OK || best.Total != 5 || !slices.Equal(best.Columns, []int{1, 0, 2}) {
		t.Errorf("example 1: %v, %d", best, e)
	}
	if e := matching.Verify(costs, result{[]int{1, 0, 2}, 5, []int{3, 2, 2}, []int{0, -2, 0}}); e != api.OK {
		t.Errorf("example 1: %d", e)
	}
	pairs, e := matching.Tight(costs, []int{3, 2, 2}, []int{0, -2, 0})
	if e != api.OK || !slices.Equal(pairs, [][2]int{{0, 1}, {0, 2}, {1, 0}, {1, 1}, {2, 2}}) {
		t.Errorf("example 1: %v, %d", pairs, e)
	}
	if r, e := matching.Partial(costs, 1); e != api.OK || r.Total != 2 || !slices.Equal(r.Columns, []int{-1, 1, -1}) {
		t.Errorf("example 2: %v, %d", r, e)
	}
	if _, e := matching.Best([][]int{{5}, {7}}); e != api.ErrOrder {
		t.Errorf("example 3: %d", e)
	}
	if r, e := matching.Partial([][]int{{5}, {7}}, 6); e != api.OK || r.Total != 11 || !slices.Equal(r.Columns, []int{0, -1}) {
		t.Errorf("example 3: %v, %d", r, e)
	}
}

// P1: arguments stay as they are, and results are memory of their own.
func TestMemory(t *testing.T) {
	for _, costs := range [][][]int{{{4, 1, 3}, {2, 0, 5}, {3, 2, 2}}, even(2, 2, 1)} {
		kept := clone(costs)
		best, _ := matching.Best(costs)
		partial, _ := matching.Partial(costs, 2)
		lists := [][]int{best.Columns, best.Rows, best.Potentials, partial.Columns, partial.Rows, partial.Potentials}
		for i, l := range lists {
			for k := range l[:cap(l)] {
				l[:cap(l)][k] = -i
			}
		}
		for i, l := range lists {
			if slices.ContainsFunc(l, func(n int) bool { return n != -i }) {
				t.Error("lists share memory")
			}
		}
		if !same(costs, kept) {
			t.Errorf("%v became %v", kept, costs)
		}
	}
}
