package integer_test

import (
	"math"
	"math/big"
	"math/rand"
	"slices"
	"strings"
	"testing"

	"bombarde/api"
	"bombarde/integer"
)

// nines returns an integer of so many digits.
func nines(n int) string { return strings.Repeat("9", n) }

// bigOf returns an integer as one of package math/big, which serves as a second opinion.
func bigOf(t *testing.T, a api.Int) *big.Int {
	t.Helper()
	n, ok := new(big.Int).SetString(string(a), 10)
	if !ok || n.String() != string(a) {
		t.Fatalf("%q is not canonical", a)
	}
	return n
}

// samples returns integers of both signs: small ones, those at the borders of ints and of groups of digits, and long ones.
func samples() []api.Int {
	l := []string{"1", "2", "7", "10", "999999999", "1000000000", "1000000001", "4294967296", nines(17), nines(18), "1" + strings.Repeat("0", 18), "9223372036854775807", "9223372036854775808", "18446744073709551616"}
	random := rand.New(rand.NewSource(1))
	groups := []string{"000000000", "000000001", "499999999", "500000000", "999999998", "999999999"}
	for n := 2; n < 9; n++ {
		for range 4 {
			s := "1"
			for range n {
				s += groups[random.Intn(len(groups))]
			}
			l = append(l, s, s[random.Intn(9):])
		}
	}
	all := []api.Int{"0"}
	for _, s := range l {
		if s = strings.TrimLeft(s, "0"); s != "" {
			all = append(all, api.Int(s), api.Int("-"+s))
		}
	}
	return all
}

// P1.1
func TestCheckAndOf(t *testing.T) {
	for _, a := range []string{"0", "7", "-7", "10", "-10", "1234567890", nines(400), "-" + nines(400)} {
		if e := integer.Check(api.Int(a)); e != api.OK {
			t.Errorf("Check(%q) = %d", a, e)
		}
	}
	for _, a := range []string{"", "-", "-0", "00", "01", "-01", "+1", "1a", "a", "/", ":", "1:", "1/", " 1", "1 ", "1 0", "--1", "1-", "1.0", "1e3", "\x00", "٣", nines(401), "-" + nines(401)} {
		if e := integer.Check(api.Int(a)); e != api.ErrNumber {
			t.Errorf("Check(%q) = %d", a, e)
		}
	}
	for n, want := range map[int]api.Int{0: "0", 5: "5", -1: "-1", 1000000: "1000000", math.MaxInt: "9223372036854775807", math.MinInt: "-9223372036854775808"} {
		if a := integer.Of(n); a != want {
			t.Errorf("Of(%d) = %s", n, a)
		}
	}
}

// P1.1
func TestSmall(t *testing.T) {
	for a, want := range map[api.Int]int{"0": 0, "7": 7, "-12": -12, api.Int(nines(18)): 999999999999999999, api.Int("-" + nines(18)): -999999999999999999, "100000000000000000": 100000000000000000} {
		if n, is := integer.Small(a); n != want || !is {
			t.Errorf("Small(%s) = %d, %t", a, n, is)
		}
	}
	for _, a := range []string{"1000000000000000000", "-1000000000000000000", nines(19), nines(1000), "-" + nines(1000)} {
		if n, is := integer.Small(api.Int(a)); n != 0 || is {
			t.Errorf("Small(%s) = %d, %t", a, n, is)
		}
	}
}

// P1.2
func TestParse(t *testing.T) {
	for s, want := range map[string]string{
		"1 000 000": "1000000", "+007": "7", "-007": "-7", "-0": "0", "+0": "0", "0": "0", "0 0": "0", "-0 0": "0", "1 2 3": "123", "12 3": "123", "0 12": "12",
		strings.Repeat("0", 900) + "5":     "5",
		strings.Repeat("9 ", 399) + "9":    nines(400),
		"-" + nines(400):                   "-" + nines(400),
		"+" + nines(400):                   nines(400),
		strings.Repeat("0", 9) + nines(40): nines(40),
	} {
		if a, e := integer.Parse(s); a != api.Int(want) || e != api.OK {
			t.Errorf("Parse(%q) = %s, %d", s, a, e)
		}
	}
	for _, s := range []string{"+", "-", " ", "- 5", "+ 5", "--1", "++1", "+-1", "-+1", " 1", "1 ", "1  0", "1\t0", "1_0", "1,0", "1.0", "x", "1x", "0x1", "1-", "1 -2", "٣", "/", ":", "\x00", nines(401) + " ", nines(401) + "x"} {
		if a, e := integer.Parse(s); a != "" || e != api.ErrSyntax {
			t.Errorf("Parse(%q) = %s, %d", s, a, e)
		}
	}
	if a, e := integer.Parse(""); a != "" || e != api.ErrEmpty {
		t.Errorf("Parse of nothing = %s, %d", a, e)
	}
	for _, s := range []string{nines(401), "-" + nines(401), "+" + nines(401), "1" + strings.Repeat("0", 400), strings.Repeat("9 ", 400) + "9", "00" + nines(401)} {
		if a, e := integer.Parse(s); a != "" || e != api.ErrLong {
			t.Errorf("Parse(%q) = %s, %d", s, a, e)
		}
	}
}

// P1.3
func TestSignCompareNeg(t *testing.T) {
	for a, want := range map[api.Int]int{"0": 0, "1": 1, "-1": -1, api.Int(nines(30)): 1, api.Int("-" + nines(30)): -1} {
		if s := integer.Sign(a); s != want {
			t.Errorf("Sign(%s) = %d", a, s)
		}
	}
	for a, want := range map[api.Int]api.Int{"0": "0", "5": "-5", "-5": "5", api.Int(nines(30)): api.Int("-" + nines(30)), api.Int("-" + nines(30)): api.Int(nines(30))} {
		if n := integer.Neg(a); n != want {
			t.Errorf("Neg(%s) = %s", a, n)
		}
	}
	l := samples()
	for _, a := range l {
		x := bigOf(t, a)
		if integer.Sign(a) != x.Sign() || integer.Neg(a) != api.Int(new(big.Int).Neg(x).String()) {
			t.Errorf("%s: Sign = %d, Neg = %s", a, integer.Sign(a), integer.Neg(a))
		}
		for _, b := range l {
			if got, want := integer.Compare(a, b), x.Cmp(bigOf(t, b)); got != want {
				t.Errorf("Compare(%s, %s) = %d, not %d", a, b, got, want)
			}
		}
	}
}

// P1.4
func TestSumsAndProducts(t *testing.T) {
	l := samples()
	for _, a := range l {
		for _, b := range l {
			x, y := bigOf(t, a), bigOf(t, b)
			got := []api.Int{integer.Add(a, b), integer.Sub(a, b), integer.Mul(a, b)}
			want := []api.Int{api.Int(new(big.Int).Add(x, y).String()), api.Int(new(big.Int).Sub(x, y).String()), api.Int(new(big.Int).Mul(x, y).String())}
			if !slices.Equal(got, want) {
				t.Fatalf("%s and %s: %s, not %s", a, b, got, want)
			}
		}
	}
	if integer.Sum() != "0" || integer.Product() != "1" || integer.Sum(nil...) != "0" || integer.Product(nil...) != "1" {
		t.Error("lists of nothing")
	}
	list := []api.Int{"2", "-3", api.Int(nines(20)), "4"}
	if s, p := integer.Sum(list...), integer.Product(list...); s != "100000000000000000002" || p != "-2399999999999999999976" {
		t.Errorf("Sum = %s, Product = %s", s, p)
	}
	if integer.Sum("-9") != "-9" || integer.Product("-9") != "-9" || integer.Product("5", "0") != "0" {
		t.Error("short lists")
	}
	if !slices.Equal(list, []api.Int{"2", "-3", api.Int(nines(20)), "4"}) {
		t.Errorf("the list became %s", list)
	}
}

// P1.4 and P1.5 for integers that are longer than a right one
func TestLongIntegers(t *testing.T) {
	random := rand.New(rand.NewSource(2))
	long := func(n int) api.Int {
		digits := []byte{'1'}
		for range n - 1 {
			digits = append(digits, byte('0'+random.Intn(10)))
		}
		return api.Int(digits)
	}
	for _, c := range []struct{ a, b api.Int }{{long(3000), long(3000)}, {long(5000), integer.Neg(long(701))}, {integer.Neg(long(2000)), long(10)}, {long(9), long(1000)}} {
		x, y := bigOf(t, c.a), bigOf(t, c.b)
		if integer.Add(c.a, c.b) != api.Int(new(big.Int).Add(x, y).String()) || integer.Mul(c.a, c.b) != api.Int(new(big.Int).Mul(x, y).String()) {
			t.Errorf("sum or product of %d and %d bytes", len(c.a), len(c.b))
		}
		checkDivision(t, c.a, c.b)
		checkDivision(t, integer.Mul(c.a, c.b), c.b)
		if g := integer.Gcd(c.a, c.b); g != api.Int(new(big.Int).GCD(nil, nil, new(big.Int).Abs(x), new(big.Int).Abs(y)).String()) {
			t.Errorf("Gcd of %d and %d bytes", len(c.a), len(c.b))
		}
	}
}

// checkDivision holds DivMod against the quotient that package math/big rounds to 0.
func checkDivision(t *testing.T, a, b api.Int) {
	t.Helper()
	y := bigOf(t, b)
	quotient, rest := new(big.Int).QuoRem(bigOf(t, a), y, new(big.Int))
	if rest.Sign() != 0 && rest.Sign() != y.Sign() {
		quotient.Sub(quotient, big.NewInt(1))
		rest.Add(rest, y)
	}
	q, r, e := integer.DivMod(a, b)
	if q != api.Int(quotient.String()) || r != api.Int(rest.String()) || e != api.OK {
		t.Fatalf("DivMod(%s, %s) = %s, %s, %d, not %s, %s", a, b, q, r, e, quotient, rest)
	}
}

// P1.5
func TestDivMod(t *testing.T) {
	for _, c := range []struct{ a, b, q, r api.Int }{
		{"7", "2", "3", "1"}, {"-7", "2", "-4", "1"}, {"7", "-2", "-4", "-1"}, {"-7", "-2", "3", "-1"}, {"6", "-3", "-2", "0"}, {"-6", "3", "-2", "0"}, {"0", "-5", "0", "0"},
		{"5", "100000000000000000000", "0", "5"}, {"-5", "100000000000000000000", "-1", "99999999999999999995"}, {"5", "-100000000000000000000", "-1", "-99999999999999999995"}, {"-5", "-100000000000000000000", "0", "-5"},
	} {
		if q, r, e := integer.DivMod(c.a, c.b); q != c.q || r != c.r || e != api.OK {
			t.Errorf("DivMod(%s, %s) = %s, %s, %d", c.a, c.b, q, r, e)
		}
	}
	for _, a := range []api.Int{"0", "1", "-1", api.Int(nines(50))} {
		if q, r, e := integer.DivMod(a, "0"); q != "" || r != "" || e != api.ErrZero {
			t.Errorf("DivMod(%s, 0) = %s, %s, %d", a, q, r, e)
		}
	}
	l := samples()
	for _, a := range l {
		for _, b := range l {
			if b != "0" {
				checkDivision(t, a, b)
				checkDivision(t, integer.Mul(a, b), b)
				checkDivision(t, integer.Sub(integer.Mul(a, b), "1"), b)
			}
		}
	}
}

// P1.5: in these divisions the quotient of the highest pieces is too great, and must be taken back.
func TestDivModTakesBack(t *testing.T) {
	zero, top, half := strings.Repeat("0", 9), nines(9), "500000000"
	groups := []string{zero, "000000001", half, "499999999", "999999998", top}
	for _, x := range groups {
		for _, y := range groups {
			for _, z := range groups {
				for _, d := range groups {
					checkDivision(t, api.Int("4"+x+y+z+zero), api.Int("5"+zero+d))
					checkDivision(t, api.Int("1"+x+y+z), api.Int(half+zero+d))
					checkDivision(t, api.Int("499999999"+x+y+z), api.Int(half+d+top))
				}
			}
		}
	}
}

// P1.5
func TestGcd(t *testing.T) {
	for _, c := range []struct{ a, b, g api.Int }{{"84", "-36", "12"}, {"-84", "36", "12"}, {"-84", "-36", "12"}, {"0", "0", "0"}, {"0", "-5", "5"}, {"-5", "0", "5"}, {"1", "7", "1"}, {"0", api.Int("-" + nines(40)), api.Int(nines(40))}, {api.Int("-" + nines(40)), "0", api.Int(nines(40))}} {
		if g := integer.Gcd(c.a, c.b); g != c.g {
			t.Errorf("Gcd(%s, %s) = %s", c.a, c.b, g)
		}
	}
	l := samples()
	for _, a := range l {
		for _, b := range l {
			x, y := new(big.Int).Abs(bigOf(t, a)), new(big.Int).Abs(bigOf(t, b))
			if g, want := integer.Gcd(a, b), new(big.Int).GCD(nil, nil, x, y).String(); g != api.Int(want) {
				t.Fatalf("Gcd(%s, %s) = %s, not %s", a, b, g, want)
			}
		}
	}
}

// P1.6
func TestPower(t *testing.T) {
	for _, c := range []struct {
		a    api.Int
		n    int
		want api.Int
	}{{"3", 12, "531441"}, {"2", 19, "524288"}, {"-2", 3, "-8"}, {"-2", 4, "16"}, {"0", 0, "1"}, {"0", 6000, "0"}, {"7", 0, "1"}, {"-7", 1, "-7"}, {"-1", 5999, "-1"}, {"-2", 65, "-36893488147419103232"}, {api.Int(nines(5000)), 0, "1"}} {
		if p, e := integer.Power(c.a, c.n); p != c.want || e != api.OK {
			t.Errorf("Power(%s, %d) = %s, %d", c.a, c.n, p, e)
		}
	}
	for _, c := range []struct {
		a api.Int
		n int
	}{{"9", 6000}, {"-9", 5999}, {"9999", 6000}, {"-9999", 6000}, {"12345", 4800}, {"-12345", 4800}, {api.Int(nines(24000)), 1}, {api.Int("-" + nines(12000)), 2}} {
		want := new(big.Int).Exp(bigOf(t, c.a), big.NewInt(int64(c.n)), nil)
		if p, e := integer.Power(c.a, c.n); p != api.Int(want.String()) || e != api.OK {
			t.Errorf("Power of %d bytes with %d: %d", len(c.a), c.n, e)
		}
	}
	for _, c := range []struct {
		a    api.Int
		n    int
		want api.Errno
	}{{"2", -1, api.ErrRange}, {"2", 6001, api.ErrRange}, {"2", math.MinInt, api.ErrRange}, {"2", math.MaxInt, api.ErrRange}, {"12345", 6001, api.ErrRange}, {"12345", 4801, api.ErrLimit}, {"-12345", 4801, api.ErrLimit}, {"10000", 6000, api.ErrLimit}, {api.Int(nines(24001)), 1, api.ErrLimit}} {
		if p, e := integer.Power(c.a, c.n); p != "" || e != c.want {
			t.Errorf("Power of %d bytes with %d = %s, %d", len(c.a), c.n, p, e)
		}
	}
}

// P1.7
func TestConsequences(t *testing.T) {
	l := samples()[:25]
	for _, a := range l {
		if len(a) <= api.MaxDigits {
			if b, e := integer.Parse(string(a)); b != a || e != api.OK {
				t.Errorf("Parse(%s) = %s, %d", a, b, e)
			}
		}
		for _, b := range l {
			if integer.Add(a, b) != integer.Add(b, a) || integer.Mul(a, b) != integer.Mul(b, a) || integer.Sub(integer.Add(a, b), b) != a {
				t.Errorf("%s and %s: sum, product or difference", a, b)
			}
			if q, r, e := integer.DivMod(a, b); e == api.OK && integer.Add(integer.Mul(q, b), r) != a {
				t.Errorf("%s and %s: quotient and remainder", a, b)
			}
			checkDivisor(t, a, b)
			for _, c := range l {
				if integer.Mul(a, integer.Add(b, c)) != integer.Add(integer.Mul(a, b), integer.Mul(a, c)) || integer.Compare(a, b) != integer.Compare(integer.Add(a, c), integer.Add(b, c)) {
					t.Errorf("%s, %s and %s", a, b, c)
				}
				if integer.Sum(a, b, c) != integer.Sum(c, b, a) || integer.Product(a, b, c) != integer.Product(b, c, a) {
					t.Errorf("%s, %s and %s: lists", a, b, c)
				}
			}
		}
		for m := range 5 {
			p, _ := integer.Power(a, m)
			q, _ := integer.Power(a, 7)
			r, e := integer.Power(a, m+7)
			if e != api.OK || integer.Mul(p, q) != r {
				t.Errorf("powers of %s with %d", a, m)
			}
		}
	}
}

// checkDivisor asks whether the greatest common divisor divides both, and leaves no other one but 1.
func checkDivisor(t *testing.T, a, b api.Int) {
	t.Helper()
	g := integer.Gcd(a, b)
	if g == "0" {
		if a != "0" || b != "0" {
			t.Errorf("Gcd(%s, %s) = 0", a, b)
		}
		return
	}
	x, restX, _ := integer.DivMod(a, g)
	y, restY, _ := integer.DivMod(b, g)
	if restX != "0" || restY != "0" || integer.Gcd(x, y) != "1" || integer.Sign(g) != 1 {
		t.Errorf("Gcd(%s, %s) = %s", a, b, g)
	}
}

// P1: no argument makes a call panic, also where the result is unspecified.
func TestOddArguments(t *testing.T) {
	odd := []api.Int{"", "-", "--", "-0", "00", "x", "-x", "1 0", "\xff", "0000000000000000000000000", "-x00000000000000000000000", api.Int(nines(30) + "x"), "1", api.Int(nines(30))}
	for _, a := range odd {
		integer.Small(a)
		integer.Sign(a)
		integer.Neg(a)
		for _, n := range []int{0, 1, 5} {
			integer.Power(a, n)
		}
		for _, b := range odd {
			integer.Compare(a, b)
			integer.Add(a, b)
			integer.Sub(a, b)
			integer.Mul(a, b)
			integer.DivMod(a, b)
			integer.Gcd(a, b)
			integer.Sum(a, b)
			integer.Product(a, b)
		}
	}
}
