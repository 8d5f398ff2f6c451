package matching

import (
	"math"
	"slices"
)

// search is an assignment of some rows with the least total, and potentials that prove it. Columns without a row have the potential 0; those of rows that have no column yet mean nothing.
type search struct {
	costs         [][]int
	rows, columns []int // potentials
	owner         []int // the row of each column
}

// solve returns an assignment with the least total, and its proof. There are at least as many columns as rows.
func solve(costs [][]int) Result {
	s := search{
		costs:   costs,
		rows:    make([]int, len(costs)),
		columns: make([]int, width(costs)),
		owner:   slices.Repeat([]int{none}, width(costs)),
	}
	for row := range costs {
		s.assign(row)
	}
	r := Result{Columns: make([]int, len(costs)), Rows: s.rows, Potentials: s.columns}
	for column, row := range s.owner {
		if row != none {
			r.Columns[row] = column
			r.Total += costs[row][column]
		}
	}
	return r
}

// way has the shortest ways from a row to the columns: their lengths, the columns before the last ones (none behind the row itself), and which of them are known to be shortest.
type way struct {
	distance, before []int
	known            []bool
}

// assign gives a row a column, at the end of the shortest way to a free one; the rows on the way move on to the next column.
func (s *search) assign(row int) {
	n := len(s.columns)
	w := way{distance: slices.Repeat([]int{math.MaxInt}, n), before: make([]int, n), known: make([]bool, n)}
	s.extend(w, row, none)
	end := nearest(w.distance, w.free)
	for ; s.owner[end] != none; end = nearest(w.distance, w.free) {
		w.known[end] = true
		s.extend(w, s.owner[end], end)
	}
	s.raise(w, row, w.distance[end])
	for end != none {
		before := w.before[end]
		s.owner[end] = row
		if before != none {
			s.owner[end] = s.owner[before]
		}
		end = before
	}
}

// free reports whether the way to a column can still become shorter.
func (w way) free(column int) bool { return !w.known[column] }

// nearest returns the column with the least distance among those that are free.
func nearest(distance []int, free func(column int) bool) int {
	best := none
	for column, d := range distance {
		if free(column) && (best == none || d < distance[best]) {
			best = column
		}
	}
	return best
}

// extend goes on from a row, which is behind a column or is the first one, to all columns that are free. A step is as long as the cost is greater than the potentials.
func (s *search) extend(w way, row, behind int) {
	start := -s.rows[row]
	if behind != none {
		start += w.distance[behind]
	}
	for column, cost := range s.costs[row] {
		if d := start + cost - s.columns[column]; w.free(column) && d < w.distance[column] {
			w.distance[column], w.before[column] = d, behind
		}
	}
}

// raise changes the potentials, so that all steps of the shortest way, whose length is known, have the length 0, and none is less.
func (s *search) raise(w way, row, length int) {
	s.rows[row] += length
	for column, known := range w.known {
		if known {
			s.rows[s.owner[column]] += length - w.distance[column]
			s.columns[column] -= length - w.distance[column]
		}
	}
}
