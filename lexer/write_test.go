package lexer_test

import (
	"math/rand"
	"slices"
	"strings"
	"testing"

	"bombarde/api"
	"bombarde/lexer"
)

// P19.2: each field but the position counts.
func TestEqual(t *testing.T) {
	x := lexer.Token{Kind: lexer.Feet, Text: "a", Number: 3, Feet: f(8, 3), Line: 4, Column: 5}
	for i, change := range []func(y *lexer.Token){
		func(y *lexer.Token) { y.Line, y.Column = 1, 1 },
		func(y *lexer.Token) { y.Kind = lexer.Word },
		func(y *lexer.Token) { y.Text = "b" },
		func(y *lexer.Token) { y.Number = 0 },
		func(y *lexer.Token) { y.Feet.Num = 7 },
		func(y *lexer.Token) { y.Feet.Den = 1 },
	} {
		y := x
		change(&y)
		if want := i == 0; lexer.Equal(x, y) != want || lexer.Equal(y, x) != want {
			t.Errorf("Equal(%v, %v) is not %t", x, y, want)
		}
	}
	if !lexer.Equal(lexer.Token{}, lexer.Token{}) {
		t.Error("the zero token is not equal to itself")
	}
}

// textOf returns the text of a list of tokens, by the definition.
func textOf(l []lexer.Token) string {
	s := ""
	for i, x := range l {
		if i > 0 && l[i-1].Kind != lexer.Line && x.Kind != lexer.Line {
			s += " "
		}
		switch x.Kind {
		case lexer.Quote:
			s += "\"" + x.Text + "\""
		case lexer.Line:
			s += "\n"
		default:
			s += x.Text
		}
	}
	return s
}

// checkWrite compares Write with the definition.
func checkWrite(t *testing.T, l []lexer.Token) {
	t.Helper()
	before := slices.Clone(l)
	want, wantError := textOf(l), api.OK
	if tokens, _, e := lexer.Scan(want); e != api.OK || !slices.EqualFunc(tokens, l, lexer.Equal) {
		want, wantError = "", api.ErrForm
	}
	if s, e := lexer.Write(l); s != want || e != wantError {
		t.Errorf("Write(%v) = %q, %d, not %q, %d", l, s, e, want, wantError)
	}
	if !slices.Equal(l, before) {
		t.Errorf("Write changed %v to %v", before, l)
	}
}

// P19.2: lists as they are written.
func TestWriteExamples(t *testing.T) {
	for _, x := range []struct {
		l    []lexer.Token
		want string
		e    api.Errno
	}{
		{nil, "", api.OK},
		{[]lexer.Token{}, "", api.OK},
		{[]lexer.Token{word("a"), number("-3", -3), word("b"), mark("->"), word("c"), feet("4'", 4, 1), end()}, "a -3 b -> c 4'\n", api.OK},
		{[]lexer.Token{in(7, 0, quote("Rohr % flute")), in(-1, 9, feet("2-2/3'", 8, 3)), end(), mark("/"), end()}, "\"Rohr % flute\" 2-2/3'\n/\n", api.OK},
		{[]lexer.Token{number("8", 8), mark("/"), number("3", 3), end()}, "8 / 3\n", api.OK},
		{[]lexer.Token{word("a")}, "", api.ErrForm},
		{[]lexer.Token{end()}, "", api.ErrForm},
		{[]lexer.Token{word("a"), end(), end()}, "", api.ErrForm},
		{[]lexer.Token{{}}, "", api.ErrForm},
		{[]lexer.Token{{}, end()}, "", api.ErrForm},
		{[]lexer.Token{word("a b"), end()}, "", api.ErrForm},
		{[]lexer.Token{word("3"), end()}, "", api.ErrForm},
		{[]lexer.Token{word(""), end()}, "", api.ErrForm},
		{[]lexer.Token{word("a"), word(""), end()}, "", api.ErrForm},
		{[]lexer.Token{word("a\nb"), end(), end()}, "", api.ErrForm},
		{[]lexer.Token{word("a%"), end()}, "", api.ErrForm},
		{[]lexer.Token{word(strings.Repeat("a", 33)), end()}, "", api.ErrForm},
		{[]lexer.Token{number("03", 3), end()}, "", api.ErrForm},
		{[]lexer.Token{number("3", 4), end()}, "", api.ErrForm},
		{[]lexer.Token{number("-0", 0), end()}, "", api.ErrForm},
		{[]lexer.Token{feet("8/2'", 4, 1), end()}, "", api.ErrForm},
		{[]lexer.Token{feet("4'", 8, 2), end()}, "", api.ErrForm},
		{[]lexer.Token{feet("4", 4, 1), end()}, "", api.ErrForm},
		{[]lexer.Token{quote("a\"b"), end()}, "", api.ErrForm},
		{[]lexer.Token{quote("a\nb"), end()}, "", api.ErrForm},
		{[]lexer.Token{mark("-"), end()}, "", api.ErrForm},
		{[]lexer.Token{mark("a"), end()}, "", api.ErrForm},
		{[]lexer.Token{{Kind: 7, Text: "a"}, end()}, "", api.ErrForm},
		{[]lexer.Token{{Kind: -1, Text: "a"}, end()}, "", api.ErrForm},
		{[]lexer.Token{{Kind: lexer.Word, Text: "a", Number: 1}, end()}, "", api.ErrForm},
		{[]lexer.Token{word("a"), {Kind: lexer.Line}}, "", api.ErrForm},
		{[]lexer.Token{word("a"), {Kind: lexer.Line, Text: "a"}}, "", api.ErrForm},
	} {
		if s, e := lexer.Write(x.l); s != x.want || e != x.e {
			t.Errorf("Write(%v) = %q, %d, not %q, %d", x.l, s, e, x.want, x.e)
		}
		checkWrite(t, x.l)
	}
}

// P19.2, P19.5: lists of right texts, and such lists with changes, against the definition.
func TestWriteTexts(t *testing.T) {
	random := rand.New(rand.NewSource(2))
	odd := []lexer.Token{{}, word("organ"), word("a b"), number("3", 3), number("3", 0), feet("8'", 8, 1), feet("8'", 8, 3), quote("x"), quote("\""), mark("/"), mark("-"), end()}
	for _, s := range texts(3000) {
		l, _, e := lexer.Scan(s)
		if e != api.OK {
			continue
		}
		checkWrite(t, l)
		written, e := lexer.Write(l)
		again, _, g := lexer.Scan(written)
		if e != api.OK || g != api.OK || !slices.EqualFunc(l, again, lexer.Equal) {
			t.Errorf("the tokens of %q are not those of %q", s, written)
		}
		if len(l) > 0 {
			i := random.Intn(len(l))
			checkWrite(t, slices.Delete(slices.Clone(l), i, i+1))
			checkWrite(t, slices.Insert(slices.Clone(l), i, odd[random.Intn(len(odd))]))
			checkWrite(t, l[:i])
		}
	}
}

// P19.2: the limits.
func TestWriteLimits(t *testing.T) {
	many := append(slices.Repeat([]lexer.Token{word("a")}, lexer.MaxTokens-1), end())
	checkWrite(t, many)
	if s, e := lexer.Write(many); len(s) != 2*(lexer.MaxTokens-1) || e != api.OK {
		t.Errorf("Write of MaxTokens tokens = %d bytes, %d", len(s), e)
	}
	for _, further := range []lexer.Token{word("a"), {}, end()} {
		if s, e := lexer.Write(append(slices.Clone(many), further)); s != "" || e != api.ErrLimit {
			t.Errorf("Write of too many tokens = %q, %d", s, e)
		}
	}
	checkWrite(t, []lexer.Token{quote(strings.Repeat("q", api.MaxText-3)), end()})
	checkWrite(t, []lexer.Token{quote(strings.Repeat("q", api.MaxText-2)), end()})
	if _, e := lexer.Write([]lexer.Token{quote(strings.Repeat("q", api.MaxText-3)), end()}); e != api.OK {
		t.Errorf("Write of MaxText bytes = %d", e)
	}
	// P1: a text that no memory could hold.
	huge := slices.Repeat([]lexer.Token{quote(strings.Repeat("q", 1<<24))}, lexer.MaxTokens)
	if s, e := lexer.Write(huge); s != "" || e != api.ErrForm {
		t.Errorf("Write of too many bytes = %d bytes, %d", len(s), e)
	}
}
