package implicant_test

import (
	"cmp"
	"math"
	"math/bits"
	"math/rand"
	"slices"
	"testing"

	"bombarde/api"
	"bombarde/formula"
	"bombarde/implicant"
)

type (
	table = implicant.Table
	cube  = implicant.Cube
)

// parse returns the formula of a text that is right.
func parse(t *testing.T, s string) formula.Formula {
	t.Helper()
	f, e := formula.Parse(s)
	if e != api.OK {
		t.Fatalf("Parse(%q) = %d", s, e)
	}
	return f
}

// random returns a table in which On and Free have so many of ten rows.
func random(r *rand.Rand, variables, on, free int) table {
	t := table{Variables: variables}
	for row := range 1 << variables {
		switch n := r.Intn(10); {
		case n < on:
			t.On = append(t.On, row)
		case n < on+free:
			t.Free = append(t.Free, row)
		}
	}
	return t
}

// tables returns right tables with up to so many variables, with those that are the same in all rows.
func tables(variables, count int) []table {
	var l []table
	for v := range variables + 1 {
		var all []int
		for row := range 1 << v {
			all = append(all, row)
		}
		l = append(l, table{Variables: v}, table{Variables: v, On: all}, table{Variables: v, Free: all}, table{Variables: v, On: all[:1], Free: all[1:]})
	}
	r := rand.New(rand.NewSource(12))
	for i := range count {
		on := 1 + r.Intn(9)
		l = append(l, random(r, i%(variables+1), on, r.Intn(11-on)))
	}
	return l
}

// wrong has tables that are not right, with their errors.
var wrong = []struct {
	t table
	e api.Errno
}{
	{table{Variables: -1}, api.ErrRange}, {table{Variables: 9}, api.ErrRange}, {table{Variables: math.MaxInt}, api.ErrRange}, {table{Variables: math.MinInt}, api.ErrRange}, {table{Variables: 9, On: []int{1, 0}}, api.ErrRange},
	{table{Variables: 2, On: []int{4}}, api.ErrRange}, {table{Variables: 2, On: []int{-1}}, api.ErrRange}, {table{Variables: 0, On: []int{1}}, api.ErrRange}, {table{Variables: 8, Free: []int{256}}, api.ErrRange}, {table{Variables: 2, Free: []int{math.MinInt}}, api.ErrRange}, {table{Variables: 2, On: []int{math.MaxInt}}, api.ErrRange},
	{table{Variables: 2, On: []int{1, 0}}, api.ErrOrder}, {table{Variables: 2, On: []int{1, 1}}, api.ErrOrder}, {table{Variables: 2, Free: []int{0, 3, 2}}, api.ErrOrder}, {table{Variables: 2, On: []int{1, 0, 4}}, api.ErrOrder}, {table{Variables: 2, On: []int{1, 4, 0}}, api.ErrRange},
	{table{Variables: 2, On: []int{1, 1}, Free: []int{4}}, api.ErrOrder}, {table{Variables: 2, On: []int{0, 4}, Free: []int{1, 1}}, api.ErrRange},
	{table{Variables: 2, On: []int{0, 2}, Free: []int{1, 2}}, api.ErrConflict}, {table{Variables: 0, On: []int{0}, Free: []int{0}}, api.ErrConflict}, {table{Variables: 2, On: []int{0}, Free: []int{0, 4}}, api.ErrRange}, {table{Variables: 2, On: []int{1}, Free: []int{1, 0}}, api.ErrOrder},
	{table{Variables: 6, On: []int{3}, Free: []int{3}}, api.ErrConflict},
}

// rows is the definition of the rows of a cube.
func rows(c cube, variables int) []int {
	var l []int
	for row := range 1 << variables {
		if row&c.Care == c.Value {
			l = append(l, row)
		}
	}
	return l
}

// allIn reports whether all of a list are in one of two others.
func allIn(l, on, free []int) bool {
	return !slices.ContainsFunc(l, func(row int) bool { return !slices.Contains(on, row) && !slices.Contains(free, row) })
}

// anyIn reports whether one of a list is in another one.
func anyIn(l, on []int) bool {
	return slices.ContainsFunc(l, func(row int) bool { return slices.Contains(on, row) })
}

// cubes returns all cubes for some variables.
func cubes(variables int) []cube {
	var l []cube
	for care := range 1 << variables {
		for value := range 1 << variables {
			if value&^care == 0 {
				l = append(l, cube{Care: care, Value: value})
			}
		}
	}
	return l
}

// primes is the definition of the prime implicants.
func primes(t table) []cube {
	var allowed, l []cube
	for _, c := range cubes(t.Variables) {
		if allIn(rows(c, t.Variables), t.On, t.Free) {
			allowed = append(allowed, c)
		}
	}
	for _, c := range allowed {
		greater := func(d cube) bool {
			return d != c && allIn(rows(c, t.Variables), rows(d, t.Variables), nil)
		}
		if anyIn(rows(c, t.Variables), t.On) && !slices.ContainsFunc(allowed, greater) {
			l = append(l, c)
		}
	}
	slices.SortFunc(l, func(a, b cube) int {
		return cmp.Or(bits.OnesCount(uint(a.Care))-bits.OnesCount(uint(b.Care)), a.Care-b.Care, a.Value-b.Value)
	})
	return l
}

// essential is the definition of the essential ones of some prime implicants.
func essential(t table, primes []cube) []cube {
	var l []cube
	for _, c := range primes {
		for _, row := range t.On {
			others := func(d cube) bool { return d != c && row&d.Care == d.Value }
			if row&c.Care == c.Value && !slices.ContainsFunc(primes, others) {
				l = append(l, c)
				break
			}
		}
	}
	return l
}

// isSum is the definition of a sum.
func isSum(t table, l []cube) bool {
	var have []int
	for _, c := range l {
		if !allIn(rows(c, t.Variables), t.On, t.Free) || !anyIn(rows(c, t.Variables), t.On) {
			return false
		}
		have = append(have, rows(c, t.Variables)...)
	}
	return allIn(t.On, have, nil)
}

// P12.1
func TestCheck(t *testing.T) {
	for _, x := range tables(8, 100) {
		if e := implicant.Check(x); e != api.OK {
			t.Errorf("Check(%v) = %d", x, e)
		}
	}
	for _, c := range wrong {
		if e := implicant.Check(c.t); e != c.e {
			t.Errorf("Check(%v) = %d, not %d", c.t, e, c.e)
		}
	}
}

// P12.1, P12.3, P12.4, P12.5
func TestWrongTables(t *testing.T) {
	for _, c := range wrong {
		if l, e := implicant.Primes(c.t); len(l) != 0 || e != c.e {
			t.Errorf("Primes(%v) = %v, %d", c.t, l, e)
		}
		if l, e := implicant.Essential(c.t); len(l) != 0 || e != c.e {
			t.Errorf("Essential(%v) = %v, %d", c.t, l, e)
		}
		if l, e := implicant.Apart(c.t); len(l) != 0 || e != c.e {
			t.Errorf("Apart(%v) = %v, %d", c.t, l, e)
		}
		if l, e := implicant.Least(c.t); len(l) != 0 || e != c.e {
			t.Errorf("Least(%v) = %v, %d", c.t, l, e)
		}
		for _, sum := range [][]cube{nil, {{Care: -1}}, {{Care: 1, Value: 2}}} {
			if e := implicant.Verify(c.t, sum); e != c.e {
				t.Errorf("Verify(%v, %v) = %d", c.t, sum, e)
			}
		}
	}
}

// P12.1
func TestOf(t *testing.T) {
	for _, c := range []struct {
		text      string
		variables int
		want      []int
	}{
		{"|(x0 x1)", 2, []int{1, 2, 3}}, {"&(x0 !x1)", 2, []int{1}}, {"&(x0 !x1)", 3, []int{1, 5}}, {"x2", 3, []int{4, 5, 6, 7}}, {"0", 0, nil}, {"1", 0, []int{0}}, {"1", 2, []int{0, 1, 2, 3}}, {"0", 8, nil}, {"|(x0 !x0)", 1, []int{0, 1}}, {"&(x0 x1 x2 x3 x4 x5 x6 x7)", 8, []int{255}}, {"|()", 3, nil}, {"&()", 1, []int{0, 1}},
	} {
		x, e := implicant.Of(parse(t, c.text), c.variables)
		if x.Variables != c.variables || !slices.Equal(x.On, c.want) || len(x.Free) != 0 || e != api.OK {
			t.Errorf("Of(%q, %d) = %v, %d", c.text, c.variables, x, e)
		}
	}
	loop := make([]formula.Formula, 1)
	loop[0] = formula.Formula{Kind: api.And, In: loop}
	for i, c := range []struct {
		f         formula.Formula
		variables int
		e         api.Errno
	}{
		{formula.Formula{}, 2, api.ErrKind}, {formula.Formula{}, 9, api.ErrKind}, {formula.Formula{Kind: api.Var, Arg: 4096}, -1, api.ErrRange}, {formula.Formula{Kind: api.Not}, 9, api.ErrForm}, {loop[0], 2, api.ErrLimit},
		{parse(t, "x5"), -1, api.ErrRange}, {parse(t, "1"), 9, api.ErrRange}, {parse(t, "1"), math.MinInt, api.ErrRange}, {parse(t, "x5"), math.MaxInt, api.ErrRange},
		{parse(t, "x0"), 0, api.ErrSize}, {parse(t, "|(x1 x2)"), 2, api.ErrSize}, {parse(t, "&(0 x8)"), 8, api.ErrSize}, {parse(t, "x4095"), 8, api.ErrSize},
	} {
		if x, e := implicant.Of(c.f, c.variables); x.Variables != 0 || x.On != nil || x.Free != nil || e != c.e {
			t.Errorf("%d: Of = %v, %d", i, x, e)
		}
	}
}

// badCubes has what is no cube for two variables.
var badCubes = []cube{{Care: 4}, {Care: 4, Value: 4}, {Care: 1, Value: 2}, {Care: 0, Value: 1}, {Care: -1}, {Care: -1, Value: -1}, {Care: 3, Value: -1}, {Care: 3, Value: 7}, {Care: math.MinInt}, {Care: math.MaxInt, Value: 1}, {Care: 1, Value: math.MinInt}}

// P12.2
func TestRows(t *testing.T) {
	for variables := range implicant.MaxVariables + 1 {
		for _, c := range cubes(min(variables, 5)) {
			if l, e := implicant.Rows(c, variables); !slices.Equal(l, rows(c, variables)) || e != api.OK {
				t.Errorf("Rows(%v, %d) = %v, %d", c, variables, l, e)
			}
		}
	}
	if l, e := implicant.Rows(cube{Care: 255, Value: 170}, 8); !slices.Equal(l, []int{170}) || e != api.OK {
		t.Errorf("Rows = %v, %d", l, e)
	}
	for _, variables := range []int{-1, 9, math.MinInt, math.MaxInt} {
		for _, c := range []cube{{}, {Care: -1}} {
			if l, e := implicant.Rows(c, variables); len(l) != 0 || e != api.ErrRange {
				t.Errorf("Rows(%v, %d) = %v, %d", c, variables, l, e)
			}
		}
	}
	for _, c := range badCubes {
		if l, e := implicant.Rows(c, 2); len(l) != 0 || e != api.ErrForm {
			t.Errorf("Rows(%v) = %v, %d", c, l, e)
		}
	}
	if l, e := implicant.Rows(cube{Care: 1}, 0); len(l) != 0 || e != api.ErrForm {
		t.Errorf("Rows without variables = %v, %d", l, e)
	}
}

// P12.3
func TestPrimesAndEssential(t *testing.T) {
	for _, x := range tables(4, 400) {
		want := primes(x)
		if l, e := implicant.Primes(x); !slices.Equal(l, want) || e != api.OK {
			t.Errorf("Primes(%v) = %v, %d, not %v", x, l, e, want)
		}
		if l, e := implicant.Essential(x); !slices.Equal(l, essential(x, want)) || e != api.OK {
			t.Errorf("Essential(%v) = %v, %d", x, l, e)
		}
	}
	for i, c := range []struct {
		t                 table
		primes, essential []cube
	}{
		{table{Variables: 2, On: []int{1, 2, 3}}, []cube{{1, 1}, {2, 2}}, []cube{{1, 1}, {2, 2}}},
		{table{Variables: 3, On: []int{1, 2, 3, 4, 5, 6}}, []cube{{3, 1}, {3, 2}, {5, 1}, {5, 4}, {6, 2}, {6, 4}}, nil},
		{table{Variables: 2, On: []int{1}, Free: []int{3}}, []cube{{1, 1}}, []cube{{1, 1}}},
		{table{Variables: 8, On: []int{255}}, []cube{{255, 255}}, []cube{{255, 255}}},
		{table{}, nil, nil},
		{table{On: []int{0}}, []cube{{}}, []cube{{}}},
		{table{Free: []int{0}}, nil, nil},
	} {
		l, e := implicant.Primes(c.t)
		m, f := implicant.Essential(c.t)
		if !slices.Equal(l, c.primes) || !slices.Equal(m, c.essential) || e != api.OK || f != api.OK {
			t.Errorf("%d: Primes = %v, %d, Essential = %v, %d", i, l, e, m, f)
		}
	}
}

// P12.3
func TestManyVariables(t *testing.T) {
	r := rand.New(rand.NewSource(15))
	for variables := 5; variables <= 8; variables++ {
		x := random(r, variables, 5, 2)
		l, e := implicant.Primes(x)
		if want := primes(x); !slices.Equal(l, want) || e != api.OK {
			t.Errorf("%d variables: Primes = %v, %d, not %v", variables, l, e, want)
		}
		if m, e := implicant.Essential(x); !slices.Equal(m, essential(x, l)) || e != api.OK {
			t.Errorf("%d variables: Essential = %v, %d", variables, m, e)
		}
	}
}

// P12.5
func TestVerify(t *testing.T) {
	x := table{Variables: 2, On: []int{1}, Free: []int{0, 3}}
	for i, c := range []struct {
		t   table
		sum []cube
		e   api.Errno
	}{
		{x, []cube{{1, 1}}, api.OK}, {x, []cube{{3, 1}}, api.OK}, {x, []cube{{2, 0}, {1, 1}, {1, 1}}, api.OK},
		{x, nil, api.ErrCertificate}, {x, []cube{{3, 0}}, api.ErrCertificate}, {x, []cube{{1, 1}, {3, 3}}, api.ErrCertificate}, {x, []cube{{2, 2}}, api.ErrCertificate}, {x, []cube{{}}, api.ErrCertificate},
		{x, []cube{{1, 1}, {4, 4}}, api.ErrForm}, {x, []cube{{3, 3}, {4, 4}}, api.ErrCertificate}, {x, []cube{{4, 4}, {3, 3}}, api.ErrForm},
		{table{Variables: 2}, nil, api.OK}, {table{Variables: 2}, []cube{{3, 3}}, api.ErrCertificate}, {table{Variables: 2, Free: []int{1}}, nil, api.OK},
		{table{Variables: 2, On: []int{1, 2}}, []cube{{3, 1}}, api.ErrCertificate}, {table{Variables: 2, On: []int{1, 2}}, []cube{{3, 2}, {3, 1}}, api.OK},
		{table{On: []int{0}}, []cube{{}}, api.OK}, {table{On: []int{0}}, []cube{{1, 1}}, api.ErrForm},
	} {
		if e := implicant.Verify(c.t, c.sum); e != c.e {
			t.Errorf("%d: Verify(%v, %v) = %d", i, c.t, c.sum, e)
		}
	}
	for _, c := range badCubes {
		if e := implicant.Verify(x, []cube{c}); e != api.ErrForm {
			t.Errorf("Verify of %v = %d", c, e)
		}
	}
	r := rand.New(rand.NewSource(16))
	for _, x := range tables(4, 300) {
		possible := cubes(x.Variables)
		for range 10 {
			var sum []cube
			for range r.Intn(5) {
				sum = append(sum, possible[r.Intn(len(possible))])
			}
			want := api.ErrCertificate
			if isSum(x, sum) {
				want = api.OK
			}
			if e := implicant.Verify(x, sum); e != want {
				t.Errorf("Verify(%v, %v) = %d", x, sum, e)
			}
		}
	}
}

// P12.5
func TestFormula(t *testing.T) {
	for _, c := range []struct {
		sum       []cube
		variables int
		want      string
	}{
		{[]cube{{3, 1}}, 2, "|(&(x0 !x1))"}, {nil, 2, "|()"}, {[]cube{{}}, 0, "|(&())"}, {[]cube{{255, 129}}, 8, "|(&(x0 !x1 !x2 !x3 !x4 !x5 !x6 x7))"}, {[]cube{{2, 2}, {5, 4}, {2, 2}}, 3, "|(&(x1) &(!x0 x2) &(x1))"},
	} {
		f, e := implicant.Formula(c.sum, c.variables)
		if s, _ := formula.Text(f); s != c.want || e != api.OK {
			t.Errorf("Formula(%v) = %q, %d", c.sum, s, e)
		}
	}
	for _, variables := range []int{-1, 9, math.MinInt, math.MaxInt} {
		if f, e := implicant.Formula([]cube{{Care: -1}}, variables); !formula.Equal(f, formula.Formula{}) || e != api.ErrRange {
			t.Errorf("Formula for %d variables = %v, %d", variables, f, e)
		}
	}
	for _, c := range badCubes {
		if f, e := implicant.Formula([]cube{{1, 1}, c}, 2); !formula.Equal(f, formula.Formula{}) || e != api.ErrForm {
			t.Errorf("Formula with %v = %v, %d", c, f, e)
		}
	}
	many, e := implicant.Formula(make([]cube, formula.MaxNodes), 0) // more nodes than a formula that is checked can have
	if len(many.In) != formula.MaxNodes || e != api.OK {
		t.Errorf("Formula of many cubes has %d, %d", len(many.In), e)
	}
}

// P12.6
func TestFormulasOfSums(t *testing.T) {
	for _, x := range tables(5, 200) {
		all, _ := implicant.Primes(x)
		least, _ := implicant.Least(x)
		for _, sum := range [][]cube{all, least} {
			if e := implicant.Verify(x, sum); e != api.OK || !isSum(x, sum) {
				t.Errorf("Verify(%v, %v) = %d", x, sum, e)
			}
			f, e := implicant.Formula(sum, x.Variables)
			y, g := implicant.Of(f, x.Variables)
			if e != api.OK || g != api.OK || !allIn(x.On, y.On, nil) || !allIn(y.On, x.On, x.Free) {
				t.Errorf("the formula of %v has the table %v, %d, %d", sum, y, e, g)
			}
		}
	}
	for variables := range implicant.MaxVariables + 1 {
		no, _ := implicant.Of(parse(t, "0"), variables)
		yes, _ := implicant.Of(parse(t, "1"), variables)
		if l, e := implicant.Primes(no); len(l) != 0 || e != api.OK || implicant.Verify(no, nil) != api.OK {
			t.Errorf("the primes of 0 are %v, %d", l, e)
		}
		if l, e := implicant.Primes(yes); !slices.Equal(l, []cube{{}}) || e != api.OK {
			t.Errorf("the primes of 1 are %v, %d", l, e)
		}
	}
}

// P12.3, P12.4, P12.5
func TestMemory(t *testing.T) {
	x := table{Variables: 3, On: []int{1, 2, 3, 4, 5, 6}, Free: []int{7}}
	sum := []cube{{4, 4}, {4, 4}, {1, 1}, {2, 2}}
	for range 2 {
		p, _ := implicant.Primes(x)
		l, _ := implicant.Least(x)
		rows, _ := implicant.Apart(x)
		if implicant.Verify(x, sum) != api.OK || !slices.Equal(p, []cube{{1, 1}, {2, 2}, {4, 4}}) || !slices.Equal(l, p) || !slices.Equal(rows, []int{1, 2, 4}) {
			t.Errorf("Primes = %v, Least = %v, Apart = %v", p, l, rows)
		}
		p[0], l[0], rows[0] = cube{}, cube{}, 0
	}
	f, _ := implicant.Formula(sum, 3)
	if &f.In[0].In[0] == &f.In[1].In[0] {
		t.Error("two products share their memory")
	}
	if !slices.Equal(x.On, []int{1, 2, 3, 4, 5, 6}) || !slices.Equal(x.Free, []int{7}) || !slices.Equal(sum, []cube{{4, 4}, {4, 4}, {1, 1}, {2, 2}}) {
		t.Errorf("arguments changed to %v, %v", x, sum)
	}
}
