package lexer_test

import (
	"math/big"
	"math/rand"
	"regexp"
	"slices"
	"strings"
	"testing"

	"bombarde/api"
	"bombarde/lexer"
)

// f returns a fraction.
func f(num, den int) api.Fraction { return api.Fraction{Num: num, Den: den} }

// at returns a position.
func at(line, column int) lexer.Position { return lexer.Position{Line: line, Column: column} }

// Tokens without their positions.
func word(s string) lexer.Token  { return lexer.Token{Kind: lexer.Word, Text: s} }
func quote(s string) lexer.Token { return lexer.Token{Kind: lexer.Quote, Text: s} }
func mark(s string) lexer.Token  { return lexer.Token{Kind: lexer.Mark, Text: s} }
func end() lexer.Token           { return lexer.Token{Kind: lexer.Line, Text: "\n"} }
func number(s string, n int) lexer.Token {
	return lexer.Token{Kind: lexer.Number, Text: s, Number: n}
}
func feet(s string, num, den int) lexer.Token {
	return lexer.Token{Kind: lexer.Feet, Text: s, Feet: f(num, den)}
}

// in returns a token at a position.
func in(line, column int, t lexer.Token) lexer.Token {
	t.Line, t.Column = line, column
	return t
}

// pattern is a kind of tokens with the texts that are such ones.
type pattern struct {
	kind int
	form *regexp.Regexp
}

// patterns are all kinds of tokens within lines, as a second opinion; a quote is closed, and a word or a number can be too great.
var patterns = []pattern{
	{lexer.Word, regexp.MustCompile(`^[A-Za-z][A-Za-z0-9_]*`)},
	{lexer.Number, regexp.MustCompile(`^-?[0-9]+`)},
	{lexer.Feet, regexp.MustCompile(`^[0-9]+'`)},
	{lexer.Feet, regexp.MustCompile(`^[0-9]+/[0-9]+'`)},
	{lexer.Feet, regexp.MustCompile(`^[0-9]+-[0-9]+/[0-9]+'`)},
	{lexer.Quote, regexp.MustCompile(`^"[^"\n]*"`)},
	{lexer.Mark, regexp.MustCompile(`^->`)},
	{lexer.Mark, regexp.MustCompile(`^[()\[\]{}:,;=+.?*/]`)},
}

// expected returns what Scan of a text that is not too long must return, line by line and with the longest of all patterns.
func expected(s string) ([]lexer.Token, lexer.Position, api.Errno) {
	var l []lexer.Token
	for i, line := range strings.Split(s, "\n") {
		before := len(l)
		column := 1
		for column <= len(line) {
			rest := line[column-1:]
			if rest[0] == ' ' || rest[0] == '\t' {
				column++
				continue
			}
			if rest[0] == '%' {
				column = len(line) + 1
				continue
			}
			kind, text := 0, ""
			for _, p := range patterns {
				if found := p.form.FindString(rest); len(found) > len(text) {
					kind, text = p.kind, found
				}
			}
			t, e := made(kind, text)
			if e == api.OK && len(l) == lexer.MaxTokens {
				e = api.ErrLimit
			}
			if e != api.OK {
				return nil, at(i+1, column), e
			}
			l = append(l, in(i+1, column, t))
			column += len(text)
		}
		if len(l) > before {
			if len(l) == lexer.MaxTokens {
				return nil, at(i+1, column), api.ErrLimit
			}
			l = append(l, in(i+1, column, end()))
		}
	}
	return l, lexer.Position{}, api.OK
}

// made returns the token of a kind that is written as some text.
func made(kind int, text string) (lexer.Token, api.Errno) {
	switch kind {
	case lexer.Word:
		if len(text) > api.MaxName {
			return lexer.Token{}, api.ErrName
		}
	case lexer.Number:
		n, _ := new(big.Int).SetString(text, 10)
		if n.CmpAbs(big.NewInt(1000000000)) > 0 {
			return lexer.Token{}, api.ErrNumber
		}
		return number(n.String(), int(n.Int64())), api.OK
	case lexer.Feet:
		return madeFeet(strings.TrimSuffix(text, "'"))
	case lexer.Quote:
		return quote(strings.Trim(text, `"`)), api.OK
	case 0:
		return lexer.Token{}, api.ErrSyntax
	}
	return lexer.Token{Kind: kind, Text: text}, api.OK
}

// madeFeet returns the feet that are written as some text in front of their mark.
func madeFeet(text string) (lexer.Token, api.Errno) {
	value, limit := new(big.Rat), big.NewInt(api.MaxPart)
	for _, part := range strings.Split(text, "-") {
		num, den, quotient := strings.Cut(part, "/")
		if !quotient {
			den = "1"
		}
		n, _ := new(big.Int).SetString(num, 10)
		d, _ := new(big.Int).SetString(den, 10)
		if n.Cmp(limit) > 0 || d.Cmp(limit) > 0 || d.Sign() == 0 {
			return lexer.Token{}, api.ErrNumber
		}
		value.Add(value, new(big.Rat).SetFrac(n, d))
	}
	if value.Num().Cmp(limit) > 0 || value.Denom().Cmp(limit) > 0 {
		return lexer.Token{}, api.ErrNumber
	}
	whole, rest := new(big.Int).DivMod(value.Num(), value.Denom(), new(big.Int))
	s := rest.String() + "/" + value.Denom().String()
	if rest.Sign() == 0 {
		s = whole.String()
	} else if whole.Sign() != 0 {
		s = whole.String() + "-" + s
	}
	return feet(s+"'", int(value.Num().Int64()), int(value.Denom().Int64())), api.OK
}

// check compares Scan of a text with what is expected.
func check(t *testing.T, s string) {
	t.Helper()
	l, where, e := lexer.Scan(s)
	want, wantWhere, wantError := expected(s)
	if !slices.Equal(l, want) || where != wantWhere || e != wantError {
		t.Errorf("Scan(%q) = %v, %v, %d, not %v, %v, %d", s, l, where, e, want, wantWhere, wantError)
	}
}

// P19.1: the examples.
func TestScanExamples(t *testing.T) {
	for _, x := range []struct {
		s    string
		want []lexer.Token
	}{
		{`stop "Rohr flute" 2-2/3' % third`, []lexer.Token{in(1, 1, word("stop")), in(1, 6, quote("Rohr flute")), in(1, 19, feet("2-2/3'", 8, 3)), in(1, 33, end())}},
		{"a -3 b->c 8/2'", []lexer.Token{in(1, 1, word("a")), in(1, 3, number("-3", -3)), in(1, 6, word("b")), in(1, 7, mark("->")), in(1, 9, word("c")), in(1, 11, feet("4'", 4, 1)), in(1, 15, end())}},
		{"2-3", []lexer.Token{in(1, 1, number("2", 2)), in(1, 2, number("-3", -3)), in(1, 4, end())}},
		{"8/3", []lexer.Token{in(1, 1, number("8", 8)), in(1, 2, mark("/")), in(1, 3, number("3", 3)), in(1, 4, end())}},
		{"\n\t8' % x\n\n%\"\n 2/3'\n", []lexer.Token{in(2, 2, feet("8'", 8, 1)), in(2, 8, end()), in(5, 2, feet("2/3'", 2, 3)), in(5, 6, end())}},
		{"% only a comment", nil},
		{"", nil},
	} {
		if l, where, e := lexer.Scan(x.s); !slices.Equal(l, x.want) || where != at(0, 0) || e != api.OK {
			t.Errorf("Scan(%q) = %v, %v, %d", x.s, l, where, e)
		}
	}
}

// P19.1: the errors, each at the beginning of its token, and the first of them.
func TestScanErrors(t *testing.T) {
	long := strings.Repeat("a", api.MaxName+1)
	for _, x := range []struct {
		s     string
		where lexer.Position
		e     api.Errno
	}{
		{"3/0'", at(1, 1), api.ErrNumber},
		{"'", at(1, 1), api.ErrSyntax},
		{"8''", at(1, 3), api.ErrSyntax},
		{"8 '", at(1, 3), api.ErrSyntax},
		{"-8'", at(1, 3), api.ErrSyntax},
		{"2-3'", at(1, 4), api.ErrSyntax},
		{"a\n b -", at(2, 4), api.ErrSyntax},
		{"a ->-", at(1, 5), api.ErrSyntax},
		{">", at(1, 1), api.ErrSyntax},
		{"_a", at(1, 1), api.ErrSyntax},
		{"a\r\n", at(1, 2), api.ErrSyntax},
		{"a \"b\n\"", at(1, 3), api.ErrSyntax},
		{"\"a", at(1, 1), api.ErrSyntax},
		{"\"", at(1, 1), api.ErrSyntax},
		{"a % \"\n\"", at(2, 1), api.ErrSyntax},
		{"\xc3\xa4", at(1, 1), api.ErrSyntax},
		{"\x00", at(1, 1), api.ErrSyntax},
		{"1 " + long, at(1, 3), api.ErrName},
		{"1000000001", at(1, 1), api.ErrNumber},
		{"a -1000000001", at(1, 3), api.ErrNumber},
		{"99999999999999999999999999", at(1, 1), api.ErrNumber},
		{"-99999999999999999999999999", at(1, 1), api.ErrNumber},
		{"1000001'", at(1, 1), api.ErrNumber},
		{"99999999999999999999999999'", at(1, 1), api.ErrNumber},
		{"1000001/1000001'", at(1, 1), api.ErrNumber},
		{"1/1000001'", at(1, 1), api.ErrNumber},
		{"1000001-1/2'", at(1, 1), api.ErrNumber},
		{"1-0/0'", at(1, 1), api.ErrNumber},
		{"0-1000001/2'", at(1, 1), api.ErrNumber},
		{"999999-3/2'", at(1, 1), api.ErrNumber},
		{"1000000-1/1'", at(1, 1), api.ErrNumber},
		{"1-1/1000000'", at(1, 1), api.ErrNumber},
		{"1 3/0' ' " + long, at(1, 3), api.ErrNumber},
		{long + " 3/0' '", at(1, 1), api.ErrName},
		{"' 3/0' " + long, at(1, 1), api.ErrSyntax},
	} {
		if l, where, e := lexer.Scan(x.s); l != nil || where != x.where || e != x.e {
			t.Errorf("Scan(%q) = %v, %v, %d, not %v, %d", x.s, l, where, e, x.where, x.e)
		}
	}
}

// P19.1: values at the ends of what is right.
func TestScanValues(t *testing.T) {
	name := strings.Repeat("Z", api.MaxName)
	zeros := strings.Repeat("0", 100)
	for _, x := range []struct {
		s    string
		want lexer.Token
	}{
		{name, word(name)},
		{"a_Z9_", word("a_Z9_")},
		{"1000000000", number("1000000000", 1000000000)},
		{"-1000000000", number("-1000000000", -1000000000)},
		{"-0", number("0", 0)},
		{"-007", number("-7", -7)},
		{zeros + "12", number("12", 12)},
		{"0'", feet("0'", 0, 1)},
		{"0/7'", feet("0'", 0, 1)},
		{"0-0/7'", feet("0'", 0, 1)},
		{"0-1/2'", feet("1/2'", 1, 2)},
		{"1-3/2'", feet("2-1/2'", 5, 2)},
		{"1-0/5'", feet("1'", 1, 1)},
		{"16/6'", feet("2-2/3'", 8, 3)},
		{"1000000'", feet("1000000'", 1000000, 1)},
		{"1000000/1000000'", feet("1'", 1, 1)},
		{"999999/1000000'", feet("999999/1000000'", 999999, 1000000)},
		{"999999-1/1'", feet("1000000'", 1000000, 1)},
		{"499999-1/2'", feet("499999-1/2'", 999999, 2)},
		{zeros + "2-" + zeros + "2/" + zeros + "3'", feet("2-2/3'", 8, 3)},
		{`""`, quote("")},
		{"\"% '\t\xff\r\x00\\\"", quote("% '\t\xff\r\x00\\")},
	} {
		want := []lexer.Token{in(1, 1, x.want), in(1, len(x.s)+1, end())}
		if l, where, e := lexer.Scan(x.s); !slices.Equal(l, want) || where != at(0, 0) || e != api.OK {
			t.Errorf("Scan(%q) = %v, %v, %d", x.s, l, where, e)
		}
	}
}

// P19.1: each byte alone, and behind each sort of token.
func TestScanBytes(t *testing.T) {
	for _, before := range []string{"", "a", "1", "-1", "8'", `"q"`, "->", "-", "/", "1/2", "1-2/3", "\"", "%", "\n", "a\n", " "} {
		for c := range 256 {
			check(t, before+string([]byte{byte(c)}))
			check(t, before+string([]byte{byte(c)})+"1")
		}
	}
}

// P19.1: all short texts of the bytes of feet and marks.
func TestScanShortTexts(t *testing.T) {
	var all func(s string, left int)
	all = func(s string, left int) {
		check(t, s)
		if left > 0 {
			for _, c := range "01-/'>a" {
				all(s+string(c), left-1)
			}
		}
	}
	all("", 6)
}

// scraps are parts of texts.
func scraps() []string {
	return []string{"organ", "x", "a_1", "Z", "0", "3", "12", "007", "1000000", "1000001", "1000000000", "1000000001", "'", "'", "-", "-", "/", "/", "->", ">", " ", " ", "  ", "\t", "\n", "\n", "\n\n", "%", "% c", "\"", "\"", "\"a b\"", "(", ")", "[", "]", "{", "}", ":", ",", ";", "=", "+", ".", "?", "*", "2-2/3'", "8'", "4/6'", strings.Repeat("w", 32)}
}

// texts returns random texts, with errors or without.
func texts(n int) []string {
	random := rand.New(rand.NewSource(19))
	odd := []string{"!", "_", "\r", "\x00", "\xff", "&"}
	var l []string
	for range n {
		var s strings.Builder
		for range random.Intn(16) {
			if random.Intn(80) == 0 {
				s.WriteString(odd[random.Intn(len(odd))])
			} else {
				s.WriteString(scraps()[random.Intn(len(scraps()))])
			}
		}
		l = append(l, s.String())
	}
	return l
}

// P19.1: random texts, against the definition.
func TestScanTexts(t *testing.T) {
	right := 0
	for _, s := range texts(20000) {
		check(t, s)
		if l, _, e := lexer.Scan(s); e == api.OK && len(l) > 4 {
			right++
		}
	}
	if right < 1000 {
		t.Errorf("only %d texts are right", right)
	}
}

// P19.1: the limits.
func TestScanLimits(t *testing.T) {
	for _, s := range []string{
		strings.Repeat("a ", lexer.MaxTokens-1),
		strings.Repeat("a ", lexer.MaxTokens-1) + "% x",
		strings.Repeat("a\n", lexer.MaxTokens/2),
		strings.Repeat("a\n", lexer.MaxTokens/2) + "\n %\n",
		strings.Repeat("a\n", lexer.MaxTokens/2) + "b",
		strings.Repeat("a\n", lexer.MaxTokens/2) + "\n  b",
		strings.Repeat("a\n", lexer.MaxTokens/2) + "'",
		strings.Repeat("a\n", lexer.MaxTokens/2) + "\"",
		strings.Repeat("a\n", lexer.MaxTokens/2) + "1/0'",
		strings.Repeat("a\n", lexer.MaxTokens/2) + strings.Repeat("b", 33),
		strings.Repeat("a ", lexer.MaxTokens),
		strings.Repeat("a ", lexer.MaxTokens) + "\nb",
		strings.Repeat("a ", lexer.MaxTokens+1),
		strings.Repeat(".", lexer.MaxTokens) + ".",
		strings.Repeat(" ", api.MaxText-1) + ".",
		`"` + strings.Repeat("q", api.MaxText-2) + `"`,
		strings.Repeat("\n", api.MaxText),
		strings.Repeat("0", api.MaxText),
		strings.Repeat("0/", api.MaxText/4) + "'",
		strings.Repeat("9", api.MaxText-1) + "'",
	} {
		check(t, s)
	}
	if l, where, e := lexer.Scan(strings.Repeat("a ", lexer.MaxTokens)); l != nil || where != at(1, 2*lexer.MaxTokens+1) || e != api.ErrLimit {
		t.Errorf("Scan with too many tokens = %d tokens, %v, %d", len(l), where, e)
	}
	for _, s := range []string{strings.Repeat(" ", api.MaxText+1), strings.Repeat("'", api.MaxText+1), strings.Repeat("a ", api.MaxText)} {
		if l, where, e := lexer.Scan(s); l != nil || where != at(0, 0) || e != api.ErrLong {
			t.Errorf("Scan of %d bytes = %d tokens, %v, %d", len(s), len(l), where, e)
		}
	}
}

// P19.5: what separates tokens changes none of them.
func TestScanSeparators(t *testing.T) {
	for _, s := range texts(3000) {
		l, _, e := lexer.Scan(s)
		if e != api.OK {
			continue
		}
		var spread strings.Builder
		for _, x := range l {
			switch x.Kind {
			case lexer.Line:
				spread.WriteString(" \t%' \"\n\n \t\n% 1\n")
			case lexer.Quote:
				spread.WriteString("\t \"" + x.Text + "\" ")
			default:
				spread.WriteString("  " + x.Text + "\t")
			}
		}
		other, _, e := lexer.Scan(spread.String())
		if e != api.OK || !slices.EqualFunc(other, l, lexer.Equal) {
			t.Errorf("the tokens of %q and %q differ: %v, %v, %d", s, spread.String(), l, other, e)
		}
	}
}

// P19.5: two texts, one below the other.
func TestScanBoth(t *testing.T) {
	l := texts(4000)
	for i := range len(l) / 2 {
		a, _, e := lexer.Scan(l[2*i])
		b, _, g := lexer.Scan(l[2*i+1])
		if e != api.OK || g != api.OK {
			continue
		}
		both, _, e := lexer.Scan(l[2*i] + "\n" + l[2*i+1])
		if e != api.OK || !slices.EqualFunc(both, slices.Concat(a, b), lexer.Equal) {
			t.Errorf("the tokens of %q and %q together: %v, %d", l[2*i], l[2*i+1], both, e)
		}
	}
}
