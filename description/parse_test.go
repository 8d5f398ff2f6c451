package description_test

import (
	"math/rand"
	"slices"
	"strings"
	"testing"

	"bombarde/api"
	"bombarde/description"
	"bombarde/lexer"
	"bombarde/organ"
)

// at returns a position.
func at(line, column int) lexer.Position { return lexer.Position{Line: line, Column: column} }

// forms has, for the first word of each line, what stands behind it: W is a word, N a number, F feet, R and D names of a rank and of a division.
var forms = map[string]string{
	"organ":    "W",
	"rank":     "W tone W feet F first N wind N*",
	"division": "W pedal? keys N N",
	"stop":     "W feet F",
	"keys":     "N N",
	"draw":     "R N",
	"coupler":  "W from D to D shift N through?",
}

// follow has the first words of the lines that can stand behind a line.
var follow = map[string]string{
	"":         "organ",
	"organ":    "rank division coupler",
	"rank":     "rank division coupler",
	"division": "stop division coupler",
	"stop":     "keys stop division coupler",
	"keys":     "draw keys stop division coupler",
	"draw":     "draw keys stop division coupler",
	"coupler":  "coupler",
}

// followStop is the same for the lines of a stop.
var followStop = map[string]string{"": "stop", "stop": "keys", "keys": "draw keys", "draw": "draw keys"}

// line is a line that was read: its first word, and the tokens of what is no word of the language, with "pedal" and "through".
type line struct {
	kind   string
	values []lexer.Token
	set    bool
}

// lines returns the lines of a text, or its first error, by tables of what can stand where.
func lines(s string, follow map[string]string, ranks []string) ([]line, lexer.Position, api.Errno) {
	tokens, where, e := lexer.Scan(s)
	if e != api.OK {
		return nil, where, e
	}
	if len(tokens) == 0 {
		return nil, at(1, 1), api.ErrSyntax
	}
	var l []line
	var divisions []string
	kind := ""
	for i := 0; i < len(tokens); i++ {
		if !slices.Contains(strings.Fields(follow[kind]), tokens[i].Text) || tokens[i].Kind != lexer.Word {
			return nil, at(tokens[i].Line, tokens[i].Column), api.ErrSyntax
		}
		kind = tokens[i].Text
		x := line{kind: kind}
		i++
		for _, item := range append(strings.Fields(forms[kind]), "end") {
			for item == "N*" && tokens[i].Kind == lexer.Number {
				x.values = append(x.values, tokens[i])
				i++
			}
			if e := fits(tokens[i], item, ranks, divisions); e != api.OK {
				return nil, at(tokens[i].Line, tokens[i].Column), e
			}
			if optional := strings.HasSuffix(item, "?"); item != "N*" && item != "end" && (!optional || tokens[i].Text+"?" == item && tokens[i].Kind == lexer.Word) {
				x.set = x.set || optional
				if strings.Contains("WNFRD", item) {
					x.values = append(x.values, tokens[i])
				}
				i++
			}
		}
		switch kind {
		case "rank":
			ranks = append(ranks, x.values[0].Text)
		case "division":
			divisions = append(divisions, x.values[0].Text)
		}
		l = append(l, x)
	}
	return l, lexer.Position{}, api.OK
}

// fits returns the error of a token where an item of a line must be, or can be.
func fits(t lexer.Token, item string, ranks, divisions []string) api.Errno {
	kinds := map[string]int{"W": lexer.Word, "R": lexer.Word, "D": lexer.Word, "N": lexer.Number, "F": lexer.Feet, "end": lexer.Line}
	known := map[string][]string{"R": ranks, "D": divisions}
	switch kind, isKind := kinds[item]; {
	case item == "N*" || strings.HasSuffix(item, "?"):
	case isKind && t.Kind != kind, !isKind && (t.Kind != lexer.Word || t.Text != item):
		return api.ErrSyntax
	case known[item] != nil && !slices.Contains(known[item], t.Text), (item == "R" || item == "D") && known[item] == nil:
		return api.ErrUnknown
	}
	return api.OK
}

// organOf returns the organ of some lines.
func organOf(l []line) api.Organ {
	var o api.Organ
	for _, x := range l {
		v := x.values
		switch x.kind {
		case "organ":
			o.Name = v[0].Text
		case "rank":
			r := api.Rank{Name: v[0].Text, Tone: v[1].Text, Feet: v[2].Feet, First: v[3].Number}
			for _, wind := range v[4:] {
				r.Wind = append(r.Wind, wind.Number)
			}
			o.Ranks = append(o.Ranks, r)
		case "division":
			o.Divisions = append(o.Divisions, api.Division{Name: v[0].Text, Pedal: x.set, Keys: api.Compass{Low: v[1].Number, High: v[2].Number}})
		case "coupler":
			division := func(name string) int {
				return slices.IndexFunc(o.Divisions, func(d api.Division) bool { return d.Name == name })
			}
			o.Couplers = append(o.Couplers, api.Coupler{Name: v[0].Text, From: division(v[1].Text), To: division(v[2].Text), Shift: v[3].Number, Through: x.set})
		default:
			stops := &o.Divisions[len(o.Divisions)-1].Stops
			if x.kind == "stop" {
				*stops = append(*stops, api.Stop{})
			}
			addTo(&(*stops)[len(*stops)-1], x, o.Ranks)
		}
	}
	return o
}

// addTo adds a line to a stop.
func addTo(s *api.Stop, x line, ranks []api.Rank) {
	v := x.values
	switch x.kind {
	case "stop":
		s.Name, s.Feet = v[0].Text, v[1].Feet
	case "keys":
		s.Segments = append(s.Segments, seg(v[0].Number, v[1].Number))
	case "draw":
		segment := &s.Segments[len(s.Segments)-1]
		i := slices.IndexFunc(ranks, func(r api.Rank) bool { return r.Name == v[0].Text })
		segment.Draws = append(segment.Draws, d(i, v[1].Number))
	}
}

// isZero reports whether an organ is the zero value.
func isZero(o api.Organ) bool {
	return o.Name == "" && o.Ranks == nil && o.Divisions == nil && o.Couplers == nil
}

// checkParse compares Parse of a text with what the tables say, and returns the error.
func checkParse(t *testing.T, s string) api.Errno {
	t.Helper()
	l, where, e := lines(s, follow, nil)
	want := api.Organ{}
	if e == api.OK {
		want = organOf(l)
		if e = organ.Check(want); e != api.OK {
			want = api.Organ{}
		}
	}
	o, gotWhere, got := description.Parse(s)
	if gotWhere != where || got != e || !organ.Equal(o, want) {
		t.Errorf("Parse(%q) = %v, %v, %d, not %v, %v, %d", s, o, gotWhere, got, want, where, e)
	}
	if e != api.OK && !isZero(o) {
		t.Errorf("Parse(%q) = %v with the error %d", s, o, e)
	}
	return e
}

// changes yields texts with a change at each token of a text: without it, twice, with another one in front or instead, and without all that is behind.
func changes(s string, further []string, yield func(s string)) {
	tokens := strings.Fields(strings.ReplaceAll(s, "\n", " ; "))
	write := func(l ...[]string) {
		yield(strings.ReplaceAll(strings.Join(slices.Concat(l...), " "), ";", "\n"))
	}
	for i := range tokens {
		write(tokens[:i], tokens[i+1:])
		write(tokens[:i+1], tokens[i:])
		write(tokens[:i])
		for _, x := range further {
			write(tokens[:i], []string{x}, tokens[i:])
			write(tokens[:i], []string{x}, tokens[i+1:])
		}
	}
}

// others are tokens for texts with changes.
var others = []string{"7", "-1", "4'", "\"Q\"", "->", ";", "unknown", "organ", "rank", "division", "pedal", "stop", "keys", "draw", "coupler", "through", "wind", "P", "Great", "1000001", "'", "3/0'", strings.Repeat("w", 33)}

// P20.1, P20.2: the examples.
func TestParseExamples(t *testing.T) {
	for _, x := range []struct {
		s string
		o api.Organ
	}{{chapterText, chapter()}, {exampleText, example()}, {strings.TrimSuffix(chapterText, "\n"), chapter()}} {
		if o, where, e := description.Parse(x.s); !organ.Equal(o, x.o) || where != at(0, 0) || e != api.OK {
			t.Errorf("Parse(%q) = %v, %v, %d", x.s, o, where, e)
		}
	}
}

// P20.1: the errors and their positions.
func TestParseErrors(t *testing.T) {
	replaced := func(old, new string) string { return strings.Replace(chapterText, old, new, 1) }
	for _, x := range []struct {
		s     string
		where lexer.Position
		e     api.Errno
	}{
		{"", at(1, 1), api.ErrSyntax},
		{"\n % only a comment\n\n", at(1, 1), api.ErrSyntax},
		{replaced("draw P", "draw Q"), at(6, 6), api.ErrUnknown},
		{chapterText + "stop", at(7, 5), api.ErrSyntax},
		{chapterText + "stop\n", at(7, 5), api.ErrSyntax},
		{"organ", at(1, 6), api.ErrSyntax},
		{"\n\n  organ % O\n", at(3, 12), api.ErrSyntax},
		{"organ O P", at(1, 9), api.ErrSyntax},
		{"\"organ\" O", at(1, 1), api.ErrSyntax},
		{"Organ O", at(1, 1), api.ErrSyntax},
		{"division Great keys 36 38\n", at(1, 1), api.ErrSyntax},
		{chapterText + "organ O", at(7, 1), api.ErrSyntax},
		{chapterText + "rank R tone r feet 8' first 36 wind 5", at(7, 1), api.ErrSyntax},
		{replaced("feet 8'", "feet 8"), at(2, 28), api.ErrSyntax},
		{replaced("38", "38'"), at(3, 24), api.ErrSyntax},
		{replaced("draw P 0", "draw Q"), at(6, 6), api.ErrUnknown},
		{replaced("draw P 0", "draw Q x"), at(6, 6), api.ErrUnknown},
		{replaced("draw P 0", "draw Q 0\ndraw"), at(6, 6), api.ErrUnknown},
		{replaced("draw P 0", "draw 8 Q"), at(6, 6), api.ErrSyntax},
		{replaced("draw P 0", "draw"), at(6, 5), api.ErrSyntax},
		{chapterText + "coupler C from Swell to Great shift 0", at(7, 16), api.ErrUnknown},
		{chapterText + "coupler C from Great to Swell", at(7, 25), api.ErrUnknown},
		{chapterText + "coupler C from P to Great shift 0", at(7, 16), api.ErrUnknown},
		{chapterText + "coupler C from Great to", at(7, 24), api.ErrSyntax},
		{chapterText + "coupler C from Great to 1 shift 0", at(7, 25), api.ErrSyntax},
		{chapterText + "coupler C from Great to Great shift 1\nstop S feet 8'", at(8, 1), api.ErrSyntax},
		{replaced("draw P 0", "draw Great 0"), at(6, 6), api.ErrUnknown},
		{replaced("organ O", "organ O\ndraw '"), at(2, 6), api.ErrSyntax},
		{replaced("organ O", "organ O\norgan "+strings.Repeat("O", 33)), at(2, 7), api.ErrName},
		{replaced("draw P 0", "draw Q 3/0'"), at(6, 8), api.ErrNumber},
		{strings.Repeat("x ", lexer.MaxTokens) + "x", at(1, 2*lexer.MaxTokens+1), api.ErrLimit},
		{strings.Repeat("'", api.MaxText+1), at(0, 0), api.ErrLong},
		{"organ O", at(0, 0), api.ErrEmpty},
		{"organ O\nrank P tone principal feet 8' first 36 wind", at(0, 0), api.ErrEmpty},
		{replaced("wind 5", "wind -5"), at(0, 0), api.ErrRange},
		{replaced("8'", "0'"), at(0, 0), api.ErrRange},
		{replaced("36 38", "38 36"), at(0, 0), api.ErrCompass},
		{replaced("keys 36 38\ndraw P 0\n", ""), at(0, 0), api.ErrEmpty},
		{replaced("draw P 0", "draw P 0\ndraw P 0"), at(0, 0), api.ErrDuplicate},
		{replaced("draw P 0", "draw P 128"), at(0, 0), api.ErrRange},
		{replaced("division", "rank P tone p feet 8' first 0 wind 1\ndivision"), at(0, 0), api.ErrDuplicate},
		{chapterText + "division Great keys 1 2\ncoupler C from Great to Great shift 1", at(0, 0), api.ErrDuplicate},
		{chapterText + "coupler C from Great to Great shift 0", at(0, 0), api.ErrForm},
	} {
		if o, where, e := description.Parse(x.s); !isZero(o) || where != x.where || e != x.e {
			t.Errorf("Parse(%q) = %v, %v, %d, not %v, %d", x.s, o, where, e, x.where, x.e)
		}
		checkParse(t, x.s)
	}
}

// P20.1: changes at each token, against tables of what can stand where.
func TestParseChanges(t *testing.T) {
	found := map[api.Errno]int{}
	for _, s := range []string{chapterText, exampleText} {
		changes(s, others, func(s string) { found[checkParse(t, s)]++ })
	}
	for _, e := range []api.Errno{api.OK, api.ErrSyntax, api.ErrUnknown, api.ErrName, api.ErrNumber, api.ErrDuplicate, api.ErrRange, api.ErrEmpty} {
		if found[e] == 0 {
			t.Errorf("no text has the error %d", e)
		}
	}
}

// P20.1: lines in any order.
func TestParseLines(t *testing.T) {
	random := rand.New(rand.NewSource(1))
	all := []string{"organ O", "rank P tone p feet 8' first 36 wind 5 5", "rank Q tone p feet 4' first 36 wind", "division Great keys 36 38", "division Swell pedal keys 36 40", "stop S feet 8'", "stop T feet 8'", "keys 36 36", "keys 37 38", "draw P 0", "draw Q 0", "draw R 0", "coupler C from Great to Swell shift 1", "coupler E from Swell to Swell shift 1 through"}
	for range 20000 {
		kind, s := "organ", "organ O\n"
		for range random.Intn(9) {
			next := all[random.Intn(len(all))]
			// Mostly a line that can stand there, so that many texts are read far.
			for random.Intn(20) > 0 && !slices.Contains(strings.Fields(follow[kind]), strings.Fields(next)[0]) {
				next = all[random.Intn(len(all))]
			}
			kind = strings.Fields(next)[0]
			s += next + "\n"
		}
		checkParse(t, s)
	}
}

// P20.5, P11: organs come back from their descriptions, and descriptions from their organs, however they are spaced.
func TestParsePrinted(t *testing.T) {
	for _, o := range someOrgans() {
		s, e := description.Print(o)
		back, where, g := description.Parse(s)
		if e != api.OK || g != api.OK || where != at(0, 0) || !organ.Equal(back, o) {
			t.Errorf("Parse(%q) = %v, %v, %d, not %v, %d", s, back, where, g, o, e)
		}
		if again, e := description.Print(back); again != s || e != api.OK {
			t.Errorf("Print of what Parse returns = %q, %d, not %q", again, e, s)
		}
		spread := "% organ\n \n" + strings.ReplaceAll(strings.ReplaceAll(s, " ", " \t "), "\n", "\t% 8' \"\n\n \n%\n")
		if back, where, e := description.Parse(spread); e != api.OK || where != at(0, 0) || !organ.Equal(back, o) {
			t.Errorf("Parse(%q) = %v, %v, %d", spread, back, where, e)
		}
	}
}

// P20.3: the first rank with a name counts. (Parse finds ranks in the same way, but organs with such ranks are not right.)
func TestParseFirstName(t *testing.T) {
	ranks := []api.Rank{{Name: "A"}, {Name: "B"}, {Name: "A"}, {Name: "B"}}
	s, where, e := description.ParseStop(ranks, "stop S feet 8'\nkeys 1 2\ndraw B 0\ndraw A 0\n")
	if e != api.OK || where != at(0, 0) || !slices.Equal(s.Segments[0].Draws, []api.Draw{d(1, 0), d(0, 0)}) {
		t.Errorf("ParseStop = %v, %v, %d", s, where, e)
	}
}
