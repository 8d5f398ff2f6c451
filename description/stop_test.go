package description_test

import (
	"math"
	"slices"
	"strings"
	"testing"

	"bombarde/api"
	"bombarde/description"
	"bombarde/lexer"
	"bombarde/organ"
)

// sameStop reports whether two stops are equal; empty lists are equal to nil.
func sameStop(a, b api.Stop) bool {
	with := func(s api.Stop) api.Organ { return api.Organ{Divisions: []api.Division{{Stops: []api.Stop{s}}}} }
	return organ.Equal(with(a), with(b))
}

// checkParseStop compares ParseStop of a text with what the tables say.
func checkParseStop(t *testing.T, ranks []api.Rank, s string) {
	t.Helper()
	var known []string
	for _, r := range ranks {
		known = append(known, r.Name)
	}
	l, where, e := lines(s, followStop, known)
	want := api.Stop{}
	for _, x := range l {
		addTo(&want, x, ranks)
	}
	x, gotWhere, got := description.ParseStop(ranks, s)
	if gotWhere != where || got != e || !sameStop(x, want) {
		t.Errorf("ParseStop(%q) = %v, %v, %d, not %v, %v, %d", s, x, gotWhere, got, want, where, e)
	}
	if e != api.OK && (x.Name != "" || x.Segments != nil) {
		t.Errorf("ParseStop(%q) = %v with the error %d", s, x, e)
	}
}

// P20.3: texts, right and wrong ones, for ranks that are not checked.
func TestParseStop(t *testing.T) {
	ranks := []api.Rank{{Name: "P"}, {Name: "Q", Wind: []int{-1}}, {Name: ""}, {Name: "8"}, {Name: "P"}, {Name: "keys"}}
	for _, x := range []struct {
		s     string
		want  api.Stop
		where lexer.Position
		e     api.Errno
	}{
		{"stop S feet 8'", stopOf("S", f(8, 1)), at(0, 0), api.OK},
		{"% S\n stop stop feet 0' % x", stopOf("stop", f(0, 1)), at(0, 0), api.OK},
		{"stop S feet 2-2/3'\nkeys 5 -7\nkeys 1000000000 3\ndraw keys -1000000000\ndraw P 0\ndraw P 0\n", stopOf("S", f(8, 3), seg(5, -7), seg(1000000000, 3, d(5, -1000000000), d(0, 0), d(0, 0))), at(0, 0), api.OK},
		{"", api.Stop{}, at(1, 1), api.ErrSyntax},
		{"\n\n%\n", api.Stop{}, at(1, 1), api.ErrSyntax},
		{"stop", api.Stop{}, at(1, 5), api.ErrSyntax},
		{"keys 1 2", api.Stop{}, at(1, 1), api.ErrSyntax},
		{"stop S feet 8'\nstop S feet 8'", api.Stop{}, at(2, 1), api.ErrSyntax},
		{"stop S feet 8'\nkeys 1 2\ndivision D keys 1 2", api.Stop{}, at(3, 1), api.ErrSyntax},
		{"stop S feet 8'\ndraw P 0", api.Stop{}, at(2, 1), api.ErrSyntax},
		{"stop S feet 8'\nkeys 1 2\ndraw R 0", api.Stop{}, at(3, 6), api.ErrUnknown},
		{"stop S feet 8'\nkeys 1 2\ndraw 8 0", api.Stop{}, at(3, 6), api.ErrSyntax},
		{"stop S feet 8'\nkeys 1 2\ndraw P 0 0", api.Stop{}, at(3, 10), api.ErrSyntax},
		{"stop S feet 8'\nkeys 1 2\ndraw P 9999999999", api.Stop{}, at(3, 8), api.ErrNumber},
		{"stop S feet 8' '", api.Stop{}, at(1, 16), api.ErrSyntax},
		{strings.Repeat(" ", api.MaxText+1), api.Stop{}, at(0, 0), api.ErrLong},
	} {
		if got, where, e := description.ParseStop(ranks, x.s); !sameStop(got, x.want) || where != x.where || e != x.e {
			t.Errorf("ParseStop(%q) = %v, %v, %d, not %v, %v, %d", x.s, got, where, e, x.want, x.where, x.e)
		}
		checkParseStop(t, ranks, x.s)
	}
	further := append([]string{"Q"}, others...)
	changes("stop S feet 2-2/3'\nkeys 36 48\ndraw P 0\ndraw Q 12\nkeys 49 60\nkeys 61 72\ndraw keys -1\n", further, func(s string) {
		checkParseStop(t, ranks, s)
		checkParseStop(t, nil, s)
	})
	if !slices.EqualFunc(ranks, []string{"P", "Q", "", "8", "P", "keys"}, func(r api.Rank, name string) bool { return r.Name == name }) {
		t.Errorf("ParseStop changed the ranks to %v", ranks)
	}
}

// P20.3, P20.5: the lines of all stops, from which the stops come back.
func TestPrintStop(t *testing.T) {
	for _, o := range someOrgans() {
		for i, x := range o.Divisions {
			for k, s := range x.Stops {
				text, e := description.PrintStop(o, i, k)
				if text != printedStop(o.Ranks, s) || e != api.OK {
					t.Errorf("PrintStop(%v, %d, %d) = %q, %d", o, i, k, text, e)
				}
				if back, where, e := description.ParseStop(o.Ranks, text); !sameStop(back, s) || where != at(0, 0) || e != api.OK {
					t.Errorf("ParseStop(%q) = %v, %v, %d", text, back, where, e)
				}
			}
			for _, k := range []int{-1, len(x.Stops), math.MinInt, math.MaxInt} {
				if text, e := description.PrintStop(o, i, k); text != "" || e != api.ErrUnknown {
					t.Errorf("PrintStop of the stop %d = %q, %d", k, text, e)
				}
			}
		}
		for _, i := range []int{-1, len(o.Divisions), math.MinInt, math.MaxInt} {
			if text, e := description.PrintStop(o, i, 0); text != "" || e != api.ErrUnknown {
				t.Errorf("PrintStop of the division %d = %q, %d", i, text, e)
			}
		}
	}
}

// P20.3: the longest lines of a stop have no limit.
func TestPrintLongStop(t *testing.T) {
	o := greatest()
	text, e := description.PrintStop(o, 7, 59)
	if want := printedStop(o.Ranks, o.Divisions[7].Stops[59]); text != want || e != api.OK {
		t.Errorf("PrintStop of the longest stop = %q, %d", text, e)
	}
}
