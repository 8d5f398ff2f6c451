package lexer_test

import (
	"math/rand"
	"slices"
	"testing"

	"bombarde/lexer"
)

// some returns tokens, right ones and others.
func some() []lexer.Token {
	return []lexer.Token{
		in(1, 1, word("stop")), in(1, 6, quote("stop")), in(1, 12, mark("->")), in(1, 15, number("3", 3)), in(1, 17, feet("8'", 8, 1)), in(1, 20, end()),
		in(3, 1, word("->")), in(3, 4, lexer.Token{}), in(3, 4, lexer.Token{Kind: 9, Text: "stop"}), in(3, 2, mark("stop")), in(9, 9, end()), in(2, 2, end()),
		in(-4, 0, mark("->")), in(5, 1, word("")), in(5, 2, lexer.Token{Kind: lexer.Number, Text: "a", Number: 7, Feet: f(1, 2)}),
	}
}

// P19.3, P19.4: each method, at each token.
func TestReader(t *testing.T) {
	for n := range len(some()) + 1 {
		l := some()[:n]
		for i := range n + 1 {
			checkReader(t, l, i)
		}
	}
}

// moved returns a reader that has taken some tokens.
func moved(l []lexer.Token, taken int) *lexer.Reader {
	r := lexer.Read(l)
	for range taken {
		r.Skip()
	}
	return r
}

// checkLeft checks that a reader of tokens has taken some of them.
func checkLeft(t *testing.T, name string, r *lexer.Reader, l []lexer.Token, taken int) {
	t.Helper()
	where := lexer.Position{}
	if len(l) > 0 {
		x := l[min(taken, len(l)-1)]
		where = at(x.Line, x.Column)
	}
	if r.At() != where || r.Left() != len(l)-taken {
		t.Errorf("%s of %v: at %v with %d left, not at %v with %d", name, l, r.At(), r.Left(), where, len(l)-taken)
	}
	next, found := r.Next()
	if taken == len(l) {
		if found || next != (lexer.Token{}) {
			t.Errorf("%s of %v: Next = %v, %t", name, l, next, found)
		}
	} else if !found || next != l[taken] {
		t.Errorf("%s of %v: Next = %v, %t", name, l, next, found)
	}
}

// checkReader checks all methods of a reader that has taken some tokens.
func checkReader(t *testing.T, l []lexer.Token, taken int) {
	t.Helper()
	next, left := lexer.Token{}, taken < len(l)
	if left {
		next = l[taken]
	}
	after := func(is bool) int {
		if is {
			return taken + 1
		}
		return taken
	}
	checkLeft(t, "Read", moved(l, taken), l, taken)
	r := moved(l, taken)
	if r.Skip() != left {
		t.Errorf("Skip at %d of %v", taken, l)
	}
	checkLeft(t, "Skip", r, l, after(left))
	for kind := -1; kind < 10; kind++ {
		r, is, want := moved(l, taken), left && next.Kind == kind, lexer.Token{}
		if is {
			want = next
		}
		if x, found := r.Take(kind); x != want || found != is {
			t.Errorf("Take(%d) at %d of %v = %v, %t", kind, taken, l, x, found)
		}
		checkLeft(t, "Take", r, l, after(is))
	}
	for _, s := range []string{"stop", "->", "", "Stop", "3", "8'", "\n"} {
		r, is := moved(l, taken), left && next.Kind == lexer.Word && next.Text == s
		if r.Keyword(s) != is {
			t.Errorf("Keyword(%q) at %d of %v is not %t", s, taken, l, is)
		}
		checkLeft(t, "Keyword", r, l, after(is))
		r, is = moved(l, taken), left && next.Kind == lexer.Mark && next.Text == s
		if r.Sign(s) != is {
			t.Errorf("Sign(%q) at %d of %v is not %t", s, taken, l, is)
		}
		checkLeft(t, "Sign", r, l, after(is))
	}
	r = moved(l, taken)
	want, end := l[taken:], len(l)
	if i := slices.IndexFunc(want, func(x lexer.Token) bool { return x.Kind == lexer.Line }); i >= 0 {
		want, end = want[:i], taken+i+1
	}
	if rest := r.Rest(); !slices.Equal(rest, want) {
		t.Errorf("Rest at %d of %v = %v, not %v", taken, l, rest, want)
	}
	checkLeft(t, "Rest", r, l, end)
}

// P19.3, P19.4: one method after another.
func TestReaderWays(t *testing.T) {
	random := rand.New(rand.NewSource(4))
	for range 2000 {
		l, taken := some(), 0
		r := lexer.Read(l)
		for taken < len(l) {
			is, next := true, l[taken]
			switch random.Intn(6) {
			case 0:
				is = r.Skip()
			case 1:
				_, is = r.Take(random.Intn(7))
			case 2:
				is = r.Keyword(next.Text)
			case 3:
				is = r.Sign(next.Text)
			case 4:
				_, is = r.Take(next.Kind)
			default:
				taken += len(r.Rest())
				is = taken < len(l)
			}
			if is {
				taken++
			}
			checkLeft(t, "one after another", r, l, taken)
		}
	}
}

// P1, P19.3: readers without tokens.
func TestReaderOfNothing(t *testing.T) {
	var none *lexer.Reader
	for i, r := range []*lexer.Reader{none, {}, lexer.Read(nil), lexer.Read([]lexer.Token{})} {
		x, next := r.Next()
		y, taken := r.Take(0)
		if next || taken || x != (lexer.Token{}) || y != (lexer.Token{}) || r.Skip() || r.Keyword("") || r.Sign("") {
			t.Errorf("%d: there is a token", i)
		}
		if r.At() != at(0, 0) || r.Left() != 0 || len(r.Rest()) != 0 {
			t.Errorf("%d: At = %v, Left = %d", i, r.At(), r.Left())
		}
	}
}

// P19.3, P19.4: memory is not shared.
func TestReaderMemory(t *testing.T) {
	l := some()
	r, other := lexer.Read(l), lexer.Read(l)
	clear(l)
	first := other.Rest()
	clear(first)
	checkLeft(t, "Read", r, some(), 0)
	if rest := r.Rest(); !slices.Equal(rest, some()[:5]) {
		t.Errorf("Rest = %v", rest)
	}
	// What is appended to a rest must not reach the tokens behind it.
	r = lexer.Read(some())
	_ = append(r.Rest(), word("x"), word("y"))
	checkLeft(t, "Rest", r, some(), 6)
}
