package description_test

import (
	"fmt"
	"math"
	"math/rand"
	"slices"
	"strings"
	"testing"

	"bombarde/api"
	"bombarde/description"
	"bombarde/lexer"
	"bombarde/organ"
)

// greatest returns an organ with as much of everything as there can be.
func greatest() api.Organ {
	name := func(s string, i int) string {
		return s + strings.Repeat("_", api.MaxName-len(s)-2) + fmt.Sprint(10+i)
	}
	o := api.Organ{Name: strings.Repeat("O", api.MaxName)}
	for i := range api.MaxRanks {
		o.Ranks = append(o.Ranks, api.Rank{Name: name("Rank", i), Tone: "tone", Feet: f(8, 3), First: -256, Wind: slices.Repeat([]int{api.MaxWind}, api.MaxPipes)})
	}
	for i := range api.MaxDivisions {
		x := api.Division{Name: name("Division", i), Pedal: true, Keys: api.Compass{Low: 0, High: 127}}
		for k := range api.MaxStops {
			s := stopOf(name("Stop", k), f(8, 3))
			for n := range api.MaxSegments {
				s.Segments = append(s.Segments, seg(10*n, 10*n+9))
				for m := range api.MaxDraws {
					s.Segments[n].Draws = append(s.Segments[n].Draws, d(m, -100-m))
				}
			}
			x.Stops = append(x.Stops, s)
		}
		o.Divisions = append(o.Divisions, x)
	}
	return o
}

// P20.2: organs, against what another printer writes.
func TestPrint(t *testing.T) {
	for _, o := range someOrgans() {
		if s, e := description.Print(o); s != printed(o) || e != api.OK {
			t.Errorf("Print(%v) = %q, %d, not %q", o, s, e, printed(o))
		}
	}
	for _, x := range []struct {
		o    api.Organ
		want string
	}{{chapter(), chapterText}, {example(), exampleText}} {
		if s, e := description.Print(x.o); s != x.want || e != api.OK {
			t.Errorf("Print = %q, %d, not %q", s, e, x.want)
		}
	}
}

// filled returns an organ with some of the greatest stops, and as many pipes as are asked for, at least one for each rank.
func filled(stops, pipes int) api.Organ {
	o := greatest()
	o.Divisions = o.Divisions[:1]
	o.Divisions[0].Stops = o.Divisions[0].Stops[:stops]
	for i := range stops {
		o.Divisions[0].Stops[i].Name = fmt.Sprintf("S%d", i)
	}
	left := pipes - len(o.Ranks)
	for i := range o.Ranks {
		further := min(left, api.MaxPipes-1)
		left -= further
		o.Ranks[i].Name = fmt.Sprintf("R%d", i)
		o.Ranks[i].Wind = slices.Repeat([]int{1}, 1+further)
	}
	return o
}

// P20.2, P20.3, P20.4: organs are not changed.
func TestPrintChangesNothing(t *testing.T) {
	before := someOrgans()
	for i, o := range someOrgans() {
		description.Print(o)
		description.Outline(o)
		for k, x := range o.Divisions {
			for n := range x.Stops {
				description.PrintStop(o, k, n)
			}
		}
		if !organ.Equal(o, before[i]) {
			t.Errorf("the organ is %v, not %v", o, before[i])
		}
	}
}

// checkPrint checks the error of Print of a right organ with a number of tokens and bytes.
func checkPrint(t *testing.T, o api.Organ, tokens, bytes int, want api.Errno) {
	t.Helper()
	if n, m := size(o); organ.Check(o) != api.OK || n != tokens || m != bytes {
		t.Fatalf("the organ has %d tokens and %d bytes, not %d and %d", n, m, tokens, bytes)
	}
	text := printed(o)
	if want != api.OK {
		text = ""
	}
	if s, e := description.Print(o); s != text || e != want {
		t.Errorf("Print of %d tokens, %d bytes = %d bytes, %d, not %d", tokens, bytes, len(s), e, want)
	}
}

// size returns how many tokens and bytes the description of an organ has.
func size(o api.Organ) (tokens, bytes int) {
	text := printed(o)
	return len(strings.Fields(text)) + strings.Count(text, "\n"), len(text)
}

// P20.2: the greatest number of tokens, the ends of lines among them; each pipe is one, with two bytes.
func TestPrintTokens(t *testing.T) {
	tokens, bytes := size(filled(43, 60))
	for further := lexer.MaxTokens - tokens - 2; further <= lexer.MaxTokens-tokens+2; further++ {
		want := api.OK
		if tokens+further > lexer.MaxTokens {
			want = api.ErrLimit
		}
		checkPrint(t, filled(43, 60+further), tokens+further, bytes+2*further, want)
	}
}

// P20.2: the greatest number of bytes; a wind that is ten times as great has one more.
func TestPrintBytes(t *testing.T) {
	tokens, bytes := size(filled(2, 7680))
	for further := api.MaxText - bytes - 2; further <= api.MaxText-bytes+2; further++ {
		o := filled(2, 7680)
		for i := range further {
			o.Ranks[i%60].Wind[i/60%128] *= 10
		}
		want := api.OK
		if bytes+further > api.MaxText {
			want = api.ErrLong
		}
		checkPrint(t, o, tokens, bytes+further, want)
	}
	// Too many tokens come before too many bytes.
	o := greatest()
	tokens, bytes = size(o)
	checkPrint(t, o, tokens, bytes, api.ErrLimit)
}

// P20.2, P20.3, P20.4: an organ that is not right comes before everything else.
func TestWrongOrgans(t *testing.T) {
	wrong := greatest()
	wrong.Divisions[7].Stops[59].Segments[11].Draws[7].Rank = 60
	unnamed := chapter()
	unnamed.Name = "O 8"
	twice := example()
	twice.Couplers[1].Name = twice.Couplers[0].Name
	for _, x := range []struct {
		o api.Organ
		e api.Errno
	}{{api.Organ{}, api.ErrName}, {api.Organ{Name: "O"}, api.ErrEmpty}, {wrong, api.ErrUnknown}, {unnamed, api.ErrName}, {twice, api.ErrDuplicate}} {
		if s, e := description.Print(x.o); s != "" || e != x.e {
			t.Errorf("Print = %q, %d, not %d", s, e, x.e)
		}
		for _, i := range []int{-1, 0, 99} {
			if s, e := description.PrintStop(x.o, i, i); s != "" || e != x.e {
				t.Errorf("PrintStop = %q, %d, not %d", s, e, x.e)
			}
		}
		if l, e := description.Outline(x.o); l != nil || e != x.e {
			t.Errorf("Outline = %q, %d, not %d", l, e, x.e)
		}
	}
}

// P20.4, P20.5: the outlines of the examples, and of others.
func TestOutline(t *testing.T) {
	for _, x := range []struct {
		o    api.Organ
		want []string
	}{
		{chapter(), []string{"Great: Principal 8'"}},
		{example(), []string{"pedal: keys 10-2/3', draw 1/2'", "division:", "through: keys 8'"}},
	} {
		if l, e := description.Outline(x.o); !slices.Equal(l, x.want) || e != api.OK {
			t.Errorf("Outline = %q, %d, not %q", l, e, x.want)
		}
	}
	for _, o := range append(someOrgans(), greatest()) {
		var want []string
		for _, x := range o.Divisions {
			var stops []string
			for _, s := range x.Stops {
				stops = append(stops, " "+s.Name+" "+printedFeet(s.Feet))
			}
			want = append(want, x.Name+":"+strings.Join(stops, ","))
		}
		if l, e := description.Outline(o); !slices.Equal(l, want) || e != api.OK {
			t.Errorf("Outline = %q, %d, not %q", l, e, want)
		}
	}
}

// P20.4: texts of pitches, which are those of their tokens.
func TestFeet(t *testing.T) {
	l := []api.Fraction{f(0, 1), f(1, 1), f(16, 1), f(1000000, 1), f(1, 1000000), f(999999, 1000000), f(1000000, 999999), f(999999, 2)}
	random := rand.New(rand.NewSource(8))
	for range 1000 {
		l = append(l, f(random.Intn(100), 1+random.Intn(30)))
	}
	for _, x := range l {
		s, e := description.Feet(x)
		if common(x.Num, x.Den) != 1 {
			if s != "" || e != api.ErrNumber {
				t.Errorf("Feet(%v) = %q, %d", x, s, e)
			}
			continue
		}
		if s != printedFeet(x) || e != api.OK {
			t.Errorf("Feet(%v) = %q, %d", x, s, e)
		}
		if tokens, _, e := lexer.Scan(s); e != api.OK || len(tokens) != 2 || tokens[0].Feet != x || tokens[0].Text != s {
			t.Errorf("the token of Feet(%v) = %q is %v, %d", x, s, tokens, e)
		}
	}
	for _, x := range []struct {
		x    api.Fraction
		want string
		e    api.Errno
	}{
		{f(8, 3), "2-2/3'", api.OK},
		{f(4, 5), "4/5'", api.OK},
		{f(16, 1), "16'", api.OK},
		{f(-1, 1), "", api.ErrRange},
		{f(-8, 3), "", api.ErrRange},
		{f(-1000000, 1), "", api.ErrRange},
		{f(0, 0), "", api.ErrNumber},
		{f(-2, 2), "", api.ErrNumber},
		{f(8, -3), "", api.ErrNumber},
		{f(1000001, 1), "", api.ErrNumber},
		{f(-1000001, 1), "", api.ErrNumber},
		{f(math.MinInt, math.MaxInt), "", api.ErrNumber},
	} {
		if s, e := description.Feet(x.x); s != x.want || e != x.e {
			t.Errorf("Feet(%v) = %q, %d, not %q, %d", x.x, s, e, x.want, x.e)
		}
	}
}

// common returns the greatest common divisor.
func common(a, b int) int {
	if b == 0 {
		return a
	}
	return common(b, a%b)
}
