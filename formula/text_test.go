package formula_test

import (
	"strings"
	"testing"

	"bombarde/api"
	"bombarde/formula"
)

// P4.5
func TestText(t *testing.T) {
	for want, f := range map[string]tree{
		"x0": v(0), "x4095": v(4095), "!x10": not(v(10)), "&()": and(), "|()": or(), "&(x1)": and(v(1)), "0": constant(false), "1": constant(true),
		"&(x0 !x1 |(x2 x0))": and(v(0), not(v(1)), or(v(2), v(0))), "!!&(|() 1)": not(not(and(or(), constant(true)))),
	} {
		if s, e := formula.Text(f); s != want || e != api.OK {
			t.Errorf("Text(%v) = %q, %d", f, s, e)
		}
		if g, e := formula.Parse(want); !formula.Equal(g, f) || e != api.OK {
			t.Errorf("Parse(%q) = %v, %d", want, g, e)
		}
	}
	// The longest text of a right formula is shorter than api.MaxText.
	var l []tree
	for range 9999 {
		l = append(l, v(4095))
	}
	s, e := formula.Text(and(l...))
	if want := "&(x4095" + strings.Repeat(" x4095", 9998) + ")"; s != want || e != api.OK {
		t.Errorf("a text of %d bytes, %d", len(s), e)
	}
}

// P4.5 and P4.7
func TestParseOfText(t *testing.T) {
	for _, f := range append(randoms(), nested(100), wide(10_000), doubled(13)) {
		g, e := formula.Parse(text(t, f))
		if e != api.OK || !formula.Equal(f, g) {
			t.Errorf("Parse(Text(%v)) = %v, %d", f, g, e)
		}
		own(t, g)
	}
}

// P4.5
func TestParseErrors(t *testing.T) {
	long := strings.Repeat("9", 300)
	list := func(n int, s string) string { return "&(" + strings.Repeat(s+" ", n-1) + s + ")" }
	for _, c := range []struct {
		s string
		e api.Errno
	}{
		{strings.Repeat("!", api.MaxText) + "1", api.ErrLong},
		{strings.Repeat("?", api.MaxText+1), api.ErrLong},
		{strings.Repeat("!", api.MaxText), api.ErrSyntax},
		{strings.Repeat("!", api.MaxText-1) + "1", api.ErrLimit},
		{strings.Repeat("&(", api.MaxText/2), api.ErrSyntax},
		{strings.Repeat("|(", api.MaxText/3) + strings.Repeat(")", api.MaxText/3), api.ErrLimit},
		{strings.Repeat("!", 99) + "x0", api.OK},
		{strings.Repeat("!", 100) + "x0", api.ErrLimit},
		{list(9999, "0"), api.OK},
		{list(10000, "0"), api.ErrLimit},
		{list(32767, "0"), api.ErrLimit},
		{list(32768, "0"), api.ErrLong},
		// Syntax comes before all that is too great, and that before a number that is.
		{list(10000, "0") + ")", api.ErrSyntax},
		{"&(x9999 x)", api.ErrSyntax},
		{"&(x" + long + " !)", api.ErrSyntax},
		{"&(x9999 " + strings.Repeat("!", 99) + "x0)", api.ErrLimit},
		{"x4096", api.ErrRange},
		{"x9223372036854775808", api.ErrRange},
		{"x18446744073709551616", api.ErrRange},
		{"x18446744073709551617", api.ErrRange},
		{"x" + long, api.ErrRange},
		{"&(1 !x" + long + ")", api.ErrRange},
		{"x" + strings.Repeat("1", api.MaxText-1), api.ErrRange},
	} {
		f, e := formula.Parse(c.s)
		if e != c.e || e != api.OK && !formula.Equal(f, tree{}) {
			t.Errorf("Parse of %.30q.. (%d bytes) = %d, not %d", c.s, len(c.s), e, c.e)
		}
	}
}

// P4.5
func TestParseSyntax(t *testing.T) {
	for _, s := range []string{
		"", " ", "x", "x01", "x00", "x-1", "x+1", "x 1", "X1", "y", "1 ", " 1", "01", "11", "2", "-1", "!", "!!", "! x0", "!()", "x0 x1", "x0!", "\x00", "x1\x00", "x٣",
		"&", "|", "(", ")", "()", "(x0)", "&x0", "&(", "&(x0", "&(x0 ", "&(x0 )", "&( x0)", "&( )", "& ()", "&(x0  x1)", "&(x0,x1)", "&(x0x1)", "&(x0)x1", "&(x0))", "&()()", "&(x01)", "&(x0 !)", "|(x0\tx1)", "|(x0\n)", "&[x0]", "&(00)", "&(|(x0)", "&(!)", "!x01", "x1a", "xa",
	} {
		if f, e := formula.Parse(s); e != api.ErrSyntax || !formula.Equal(f, tree{}) {
			t.Errorf("Parse(%q) = %v, %d", s, f, e)
		}
	}
	for n, s := range []string{"x0", "x1", "x2"} {
		if f, e := formula.Parse(s); e != api.OK || !formula.Equal(f, v(n)) {
			t.Errorf("Parse(%q) = %v, %d", s, f, e)
		}
	}
}

// recognized returns the place behind the formula that begins at a place of a text, of any size and with any variables.
func recognized(s string, at int) (behind int, ok bool) {
	if at >= len(s) {
		return 0, false
	}
	switch s[at] {
	case '0', '1':
		return at + 1, true
	case '!':
		return recognized(s, at+1)
	case 'x':
		behind = at + 1
		for behind < len(s) && strings.Contains("0123456789", s[behind:behind+1]) {
			behind++
		}
		return behind, behind > at+1 && (s[at+1] != '0' || behind == at+2)
	case '&', '|':
		if strings.HasPrefix(s[at+1:], "()") {
			return at + 3, true
		}
		separator := "("
		for at++; strings.HasPrefix(s[at:], separator); separator = " " {
			if at, ok = recognized(s, at+1); !ok {
				return 0, false
			}
		}
		return at + 1, separator == " " && strings.HasPrefix(s[at:], ")")
	}
	return 0, false
}

// P4.5: all texts of up to six of the bytes that formulas have.
func TestParseShort(t *testing.T) {
	right := 0
	var try func(s string, left int)
	try = func(s string, left int) {
		behind, ok := recognized(s, 0)
		want := api.OK
		switch {
		case !ok || behind != len(s):
			want = api.ErrSyntax
		case len(s) == 6 && s[0] == 'x':
			want = api.ErrRange
		}
		f, e := formula.Parse(s)
		if e != want {
			t.Errorf("Parse(%q) = %d, not %d", s, e, want)
		}
		if e == api.OK {
			right++
			if text(t, f) != s {
				t.Errorf("Parse(%q) = %v", s, f)
			}
		}
		if left > 0 {
			for _, b := range "x01!&|() " {
				try(s+string(b), left-1)
			}
		}
	}
	try("", 6)
	if right < 100 {
		t.Errorf("%d right texts", right)
	}
}
