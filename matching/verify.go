package matching

import "bombarde/api"

// maxPotential bounds potentials that are accepted.
const maxPotential = 1000 * MaxCost

// Total returns the total of an assignment.
func Total(costs [][]int, columns []int) (int, api.Errno) {
	if e := Check(costs); e != api.OK {
		return 0, e
	}
	return total(costs, columns, func(column int) (int, bool) { return 0, false })
}

// total returns the total of an assignment; for a column that there is not, a function returns the cost, if it is allowed.
func total(costs [][]int, columns []int, other func(column int) (cost int, allowed bool)) (int, api.Errno) {
	if len(columns) != len(costs) {
		return 0, api.ErrSize
	}
	sum := 0
	there := make([]bool, width(costs))
	for row, column := range columns {
		if column < 0 || column >= width(costs) {
			cost, allowed := other(column)
			if !allowed {
				return 0, api.ErrRange
			}
			sum += cost
			continue
		}
		if there[column] {
			return 0, api.ErrDuplicate
		}
		there[column] = true
		sum += costs[row][column]
	}
	return sum, api.OK
}

// Verify returns the error of an assignment that should have the least total, and of its proof.
func Verify(costs [][]int, r Result) api.Errno {
	sum, e := Total(costs, r.Columns)
	if e != api.OK {
		return e
	}
	return verify(costs, r, sum, maxPotential)
}

// VerifyPartial returns the error of a partial assignment that should have the least total, and of its proof.
func VerifyPartial(costs [][]int, skip int, r Result) api.Errno {
	if e := checkPartial(costs, skip); e != api.OK {
		return e
	}
	sum, e := total(costs, r.Columns, func(column int) (int, bool) { return skip, column == none })
	if e != api.OK {
		return e
	}
	return verify(costs, r, sum, skip)
}

// verify returns the error of a result whose assignment has a total; no row may have a greater potential than most.
func verify(costs [][]int, r Result, sum, most int) api.Errno {
	if r.Total != sum {
		return api.ErrForm
	}
	proved, e := bound(costs, r.Rows, r.Potentials, most)
	if e != api.OK {
		return e
	}
	if proved < r.Total {
		return api.ErrCertificate
	}
	return api.OK
}

// Bound returns the bound that potentials prove.
func Bound(costs [][]int, rows, potentials []int) (int, api.Errno) {
	if e := Check(costs); e != api.OK {
		return 0, e
	}
	return bound(costs, rows, potentials, maxPotential)
}

// bound returns the bound of potentials; no row may have a greater one than most.
func bound(costs [][]int, rows, columns []int, most int) (int, api.Errno) {
	if len(rows) != len(costs) || len(columns) != width(costs) {
		return 0, api.ErrSize
	}
	sum := 0
	for _, l := range [2][]int{rows, columns} {
		for _, potential := range l {
			if !within(potential, maxPotential) {
				return 0, api.ErrRange
			}
			sum += potential
		}
	}
	if !valid(costs, rows, columns, most) {
		return 0, api.ErrCertificate
	}
	return sum, api.OK
}

// valid reports whether potentials are valid.
func valid(costs [][]int, rows, columns []int, most int) bool {
	for _, potential := range columns {
		if potential > 0 {
			return false
		}
	}
	for i, row := range costs {
		if rows[i] > most {
			return false
		}
		for k, cost := range row {
			if rows[i]+columns[k] > cost {
				return false
			}
		}
	}
	return true
}

// Tight returns the pairs of rows and columns whose potentials add up to the cost.
func Tight(costs [][]int, rows, potentials []int) ([][2]int, api.Errno) {
	if _, e := Bound(costs, rows, potentials); e != api.OK {
		return nil, e
	}
	var pairs [][2]int
	for i, row := range costs {
		for k, cost := range row {
			if rows[i]+potentials[k] == cost {
				pairs = append(pairs, [2]int{i, k})
			}
		}
	}
	return pairs, api.OK
}
