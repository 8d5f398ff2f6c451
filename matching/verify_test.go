package matching_test

import (
	"math"
	"slices"
	"testing"

	"bombarde/api"
	"bombarde/matching"
)

// The greatest potential that is accepted.
const greatest = 1000 * matching.MaxCost

// P7.4
func TestVerify(t *testing.T) {
	costs := [][]int{{4, 1, 3}, {2, 0, 5}, {3, 2, 2}}
	columns, rows, potentials := []int{1, 0, 2}, []int{3, 2, 2}, []int{0, -2, 0}
	for i, c := range []struct {
		r    result
		want api.Errno
	}{
		{result{columns, 5, rows, potentials}, api.OK},
		{result{columns, 5, []int{2, 1, 1}, []int{1, -1, 1}}, api.ErrCertificate}, // the potentials of columns are greater than 0
		{result{columns, 5, []int{1, 0, 2}, []int{2, 0, 0}}, api.ErrCertificate},
		{result{columns, 5, []int{3, 2, 1}, potentials}, api.ErrCertificate},      // the bound is less
		{result{columns, 5, []int{3, 2, 3}, potentials}, api.ErrCertificate},      // the row 2 has too much
		{result{columns, 5, []int{4, 2, 2}, []int{0, -3, 0}}, api.ErrCertificate}, // the pair 0 2 has too much
		{result{[]int{2, 1, 0}, 6, rows, potentials}, api.ErrCertificate},         // not the least total
		{result{[]int{2, 1, 0}, 5, rows, potentials}, api.ErrForm},                // not its total
		{result{columns, 6, nil, nil}, api.ErrForm},
		{result{columns, math.MinInt, rows, potentials}, api.ErrForm},
		{result{columns, 5, nil, potentials}, api.ErrSize},
		{result{columns, 5, rows, nil}, api.ErrSize},
		{result{columns, 5, []int{3, 2, 2, 0}, potentials}, api.ErrSize},
		{result{columns, 5, rows, []int{0, -2, 0, 0}}, api.ErrSize},
		{result{columns, 5, []int{math.MaxInt, 2, 2}, []int{0, -2}}, api.ErrSize},
		{result{columns, 5, []int{3, 2, -greatest}, potentials}, api.ErrCertificate},
		{result{columns, 5, []int{3, 2, -greatest - 1}, potentials}, api.ErrRange},
		{result{columns, 5, []int{greatest, 2, 2}, potentials}, api.ErrCertificate},
		{result{columns, 5, []int{greatest + 1, 2, 2}, potentials}, api.ErrRange},
		{result{columns, 5, rows, []int{0, -2, -greatest}}, api.ErrCertificate},
		{result{columns, 5, rows, []int{0, -2, -greatest - 1}}, api.ErrRange},
		{result{columns, 5, rows, []int{0, greatest, 0}}, api.ErrCertificate},
		{result{columns, 5, rows, []int{0, greatest + 1, 0}}, api.ErrRange},
		{result{columns, 5, []int{9, 9, math.MinInt}, []int{math.MaxInt, 1, 1}}, api.ErrRange},
		{result{[]int{1, 0}, 9, nil, nil}, api.ErrSize},
		{result{[]int{1, 0, 3}, 9, nil, nil}, api.ErrRange},
		{result{[]int{1, -1, 2}, 9, nil, nil}, api.ErrRange},
		{result{[]int{1, 0, 1}, 9, nil, nil}, api.ErrDuplicate},
	} {
		if e := matching.Verify(costs, c.r); e != c.want {
			t.Errorf("%d: Verify(%v) = %d, not %d", i, c.r, e, c.want)
		}
	}
	if e := matching.Verify(nil, result{}); e != api.OK {
		t.Errorf("Verify of nothing = %d", e)
	}
	for want, r := range map[api.Errno]result{api.ErrForm: {Total: 1}, api.ErrSize: {Potentials: []int{0}}} {
		if e := matching.Verify(nil, r); e != want {
			t.Errorf("Verify(nil, %v) = %d, not %d", r, e, want)
		}
	}
	// The potentials of a free column count, too.
	if e := matching.Verify([][]int{{3, 5}}, result{[]int{0}, 3, []int{4}, []int{-1, 0}}); e != api.OK {
		t.Errorf("a free column with 0: %d", e)
	}
	if e := matching.Verify([][]int{{3, 5}}, result{[]int{0}, 3, []int{4}, []int{-1, -1}}); e != api.ErrCertificate {
		t.Errorf("a free column with -1: %d", e)
	}
}

// P7.4 and P7.6: of all assignments just those with the least total are accepted with the potentials that prove it.
func TestVerifyOthers(t *testing.T) {
	for i, costs := range randoms(true) {
		skip := i%11 - 5
		r, _ := matching.Partial(costs, skip)
		least := r.Total
		walk(costs, skip, true, func(columns []int, total int) {
			r.Columns, r.Total = columns, total
			want := api.OK
			if total != least {
				want = api.ErrCertificate
			}
			if e := matching.VerifyPartial(costs, skip, r); e != want {
				t.Errorf("VerifyPartial(%v, %d, %v) = %d, not %d", costs, skip, r, e, want)
			}
		})
	}
	for _, costs := range randoms(false) {
		r, _ := matching.Best(costs)
		least := r.Total
		walk(costs, 0, false, func(columns []int, total int) {
			r.Columns, r.Total = columns, total
			want := api.OK
			if total != least {
				want = api.ErrCertificate
			}
			if e := matching.Verify(costs, r); e != want {
				t.Errorf("Verify(%v, %v) = %d, not %d", costs, r, e, want)
			}
		})
	}
}

// P7.6
func TestVerifyPartial(t *testing.T) {
	costs := [][]int{{4, 1, 3}, {2, 0, 5}, {3, 2, 2}}
	columns, rows, potentials := []int{-1, 1, -1}, []int{1, 0, 1}, []int{0, 0, 0}
	for i, c := range []struct {
		r    result
		want api.Errno
	}{
		{result{columns, 2, rows, potentials}, api.OK},
		{result{columns, 2, []int{1, 1, 1}, []int{0, -1, 0}}, api.OK},
		{result{[]int{1, -1, -1}, 3, rows, potentials}, api.ErrCertificate},
		{result{columns, 2, []int{2, 0, 0}, []int{0, 0, 0}}, api.ErrCertificate},  // the row 0 has more than the cost to skip
		{result{columns, 2, []int{1, 2, 1}, []int{0, -2, 0}}, api.ErrCertificate}, // likewise, with the same bound
		{result{columns, 2, []int{1, 0, 0}, potentials}, api.ErrCertificate},      // the bound is less
		{result{columns, 2, []int{1, 1, 1}, potentials}, api.ErrCertificate},      // the pair 1 1 has too much
		{result{columns, 2, []int{1, 0, 0}, []int{0, 0, 1}}, api.ErrCertificate},  // a column has more than 0
		{result{columns, 1, rows, potentials}, api.ErrForm},
		{result{columns, 0, nil, nil}, api.ErrForm},
		{result{columns, 2, nil, nil}, api.ErrSize},
		{result{columns, 2, rows, []int{0, 0}}, api.ErrSize},
		{result{columns, 2, []int{1, 0}, potentials}, api.ErrSize},
		{result{columns, 2, []int{1, 0, greatest + 1}, potentials}, api.ErrRange},
		{result{columns, 2, []int{1, 0, greatest}, potentials}, api.ErrCertificate},
		{result{columns, 2, rows, []int{0, 0, -greatest - 1}}, api.ErrRange},
		{result{columns, 2, rows, []int{0, 0, -greatest}}, api.ErrCertificate},
		{result{nil, 2, rows, potentials}, api.ErrSize},
		{result{[]int{-1, 1, -1, -1}, 2, rows, potentials}, api.ErrSize},
		{result{[]int{-1, 1, -2}, 2, rows, potentials}, api.ErrRange},
		{result{[]int{-1, 1, 3}, 2, rows, potentials}, api.ErrRange},
		{result{[]int{1, 1, 3}, 2, rows, potentials}, api.ErrDuplicate},
		{result{[]int{1, 3, 1}, 2, rows, potentials}, api.ErrRange},
		{result{[]int{-1, math.MaxInt, math.MinInt}, 2, nil, nil}, api.ErrRange},
	} {
		if e := matching.VerifyPartial(costs, 1, c.r); e != c.want {
			t.Errorf("%d: VerifyPartial(%v) = %d, not %d", i, c.r, e, c.want)
		}
	}
	if e := matching.VerifyPartial(nil, -5, result{}); e != api.OK {
		t.Errorf("VerifyPartial of nothing = %d", e)
	}
}

// P7.5
func TestBound(t *testing.T) {
	costs := [][]int{{4, 1, 3}, {2, 0, 5}}
	for i, c := range []struct {
		rows, potentials []int
		want             int
		e                api.Errno
	}{
		{[]int{1, 0}, []int{0, 0, 0}, 1, api.OK},
		{[]int{2, 1}, []int{0, -1, 0}, 2, api.OK},
		{[]int{-7, 1}, []int{-5, -1, 0}, -12, api.OK},
		{[]int{-greatest, -greatest}, []int{-greatest, -greatest, -greatest}, -5 * greatest, api.OK},
		{[]int{2, 0}, []int{0, 0, 0}, 0, api.ErrCertificate},
		{[]int{0, 0}, []int{0, 0, 1}, 0, api.ErrCertificate},
		{[]int{greatest, 0}, []int{-greatest, -greatest, -greatest}, -2 * greatest, api.OK},
		{[]int{greatest, 0}, []int{-greatest, 2 - greatest, -greatest}, 0, api.ErrCertificate},
		{[]int{greatest + 1, 0}, []int{0, 0, 0}, 0, api.ErrRange},
		{[]int{0, -greatest - 1}, []int{0, 0, 0}, 0, api.ErrRange},
		{[]int{0, 0}, []int{0, 0, math.MinInt}, 0, api.ErrRange},
		{[]int{0, 0}, []int{0, 0, math.MaxInt}, 0, api.ErrRange},
		{[]int{0, math.MaxInt}, []int{0, 0}, 0, api.ErrSize},
		{[]int{0}, []int{0, 0, math.MaxInt}, 0, api.ErrSize},
		{nil, nil, 0, api.ErrSize},
	} {
		bound, e := matching.Bound(costs, c.rows, c.potentials)
		if bound != c.want || e != c.e {
			t.Errorf("%d: Bound = %d, %d, not %d, %d", i, bound, e, c.want, c.e)
		}
		pairs, f := matching.Tight(costs, c.rows, c.potentials)
		if f != c.e || f != api.OK && pairs != nil {
			t.Errorf("%d: Tight = %v, %d, not %d", i, pairs, f, c.e)
		}
	}
	bound, e := matching.Bound(nil, nil, nil)
	pairs, f := matching.Tight(nil, nil, nil)
	if bound != 0 || e != api.OK || len(pairs) != 0 || f != api.OK {
		t.Errorf("Bound = %d, %d, Tight = %v, %d of nothing", bound, e, pairs, f)
	}
}

// P7.5 and P7.7: the tight pairs, and among them those of each best assignment.
func TestTight(t *testing.T) {
	for _, costs := range randoms(false) {
		best, _ := matching.Best(costs)
		bound, e := matching.Bound(costs, best.Rows, best.Potentials)
		pairs, f := matching.Tight(costs, best.Rows, best.Potentials)
		var want [][2]int
		for row := range costs {
			for column, cost := range costs[row] {
				if best.Rows[row]+best.Potentials[column] == cost {
					want = append(want, [2]int{row, column})
				}
			}
		}
		if e != api.OK || f != api.OK || bound != best.Total || !slices.Equal(pairs, want) {
			t.Errorf("%v: Bound = %d, %d, Tight = %v, %d, not %v", costs, bound, e, pairs, f, want)
		}
		walk(costs, 0, false, func(columns []int, total int) {
			all := true
			for row, column := range columns {
				all = all && slices.Contains(pairs, [2]int{row, column})
			}
			if total < best.Total || total == best.Total && !all {
				t.Errorf("%v: the assignment %v has the total %d, and tight are %v", costs, columns, total, pairs)
			}
		})
	}
}
