package fraction_test

import (
	"strings"
	"testing"

	"bombarde/api"
	"bombarde/fraction"
)

// P2.6
func TestText(t *testing.T) {
	for x, want := range map[api.Fraction]string{f(8, 3): "2 2/3", f(8, 5): "1 3/5", f(32, 3): "10 2/3", f(-8, 3): "-2 2/3", f(1, 2): "1/2", f(-1, 2): "-1/2", f(0, 1): "0", f(8, 1): "8", f(-8, 1): "-8", f(1000000, 999999): "1 1/999999", f(-1000000, 1): "-1000000", f(999999, 1000000): "999999/1000000"} {
		if s, e := fraction.Text(x); s != want || e != api.OK {
			t.Errorf("Text(%v) = %q, %d", x, s, e)
		}
		if y, e := fraction.Parse(want); y != x || e != api.OK {
			t.Errorf("Parse(%q) = %v, %d", want, y, e)
		}
	}
	for _, x := range wrong {
		if s, e := fraction.Text(x); s != "" || e != api.ErrNumber {
			t.Errorf("Text(%v) = %q, %d", x, s, e)
		}
	}
}

// P2.6
func TestParse(t *testing.T) {
	for s, want := range map[string]api.Fraction{
		"-0": f(0, 1), "00": f(0, 1), "007": f(7, 1), "-007": f(-7, 1), "16/6": f(8, 3), "-16/6": f(-8, 3), "1 5/3": f(8, 3), "0 1/2": f(1, 2), "-0 1/2": f(-1, 2), "0 0/5": f(0, 1), "-1 1/2": f(-3, 2), "3 0/7": f(3, 1), "01 02/04": f(3, 2),
		"500000/1000000": f(1, 2), "1000000/1000000": f(1, 1), "999999 1000000/1000000": f(1000000, 1),
		strings.Repeat("0", 39) + "7":          f(7, 1),
		strings.Repeat("0", 33) + "1000000":    f(1000000, 1),
		"1 1/" + strings.Repeat("0", 35) + "2": f(3, 2),
	} {
		if x, e := fraction.Parse(s); x != want || e != api.OK {
			t.Errorf("Parse(%q) = %v, %d", s, x, e)
		}
	}
	big := strings.Repeat("9", 40)
	for _, c := range []struct {
		e api.Errno
		l []string
	}{
		{api.ErrEmpty, []string{""}},
		{api.ErrLong, []string{strings.Repeat("0", 41), strings.Repeat("x", 41), strings.Repeat("0", 40) + "7"}},
		{api.ErrSyntax, []string{"-", "+1", "--1", "2 2", " ", " 1", "1 ", "1  1/2", "1 1/2 ", "- 1", "-+1", "1 -1/2", "1/-2", "1/", "/2", "/", "1 /2", "1/ 2", "1 1 1/2", "1/2/3", "1/2 1", "1.5", "1,5", "x", "1\t1/2", "1\n", ":", "1/:", "1 ./2", "0x1", "٣", "1000001 ", "1/0 ", "x" + big[1:]}},
		{api.ErrLimit, []string{"1000001", "-1000001", "1/1000001", "1000001/1", "1000001 1/2", "1 1000001/1", "1 1/1000001", "1000001/0", "1 1000001/0", "1000001 1/0", big, "1/" + big[2:], big[2:] + "/1", "1000000 1/2", "-1000000 1/2", "1000000 1000000/1000000", "1 999999/1000000", "2/1000001"}},
		{api.ErrZero, []string{"1/0", "0/0", "1 1/0", "-1/0", "0 0/000", "1000000 1/0"}},
	} {
		for _, s := range c.l {
			if x, e := fraction.Parse(s); x != (api.Fraction{}) || e != c.e {
				t.Errorf("Parse(%q) = %v, %d, not %d", s, x, e, c.e)
			}
		}
	}
}
