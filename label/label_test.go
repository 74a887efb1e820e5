package label_test

import (
	"fmt"
	"math/big"
	"regexp"
	"strconv"
	"strings"
	"testing"

	"quarterday/api"
	"quarterday/label"
	"quarterday/probe"
)

// most is the greatest Index of each level.
var most = [...]int{api.YearL: 1, api.HalfL: 2, api.QuarterL: 4, api.PeriodL: 52, api.WeekL: 60}

// patterns are how units of each level are written.
var patterns = [...]string{api.YearL: "%04d", api.HalfL: "%04d-H%d", api.QuarterL: "%04d-Q%d", api.PeriodL: "%04d-P%02d", api.WeekL: "%04d-W%02d"}

// written tells how a unit is written, whether it can be or not.
func written(u api.Unit) string {
	if u.Level == api.YearL {
		return fmt.Sprintf(patterns[u.Level], u.Year)
	}
	return fmt.Sprintf(patterns[u.Level], u.Year, u.Index)
}

func unitOf(level, y, n int) api.Unit { return api.Unit{Level: level, Year: y, Index: n} }

func canBeWritten(u api.Unit) bool {
	return u.Year >= 1601 && u.Year <= 9997 && u.Level >= 1 && u.Level <= 5 && u.Index >= 1 && u.Index <= most[u.Level]
}

// slowForms are the forms that units of each level have.
var slowForms = [...]*regexp.Regexp{
	api.YearL:    regexp.MustCompile(`\A([0-9]{4})\z`),
	api.HalfL:    regexp.MustCompile(`\A([0-9]{4})-H([0-9])\z`),
	api.QuarterL: regexp.MustCompile(`\A([0-9]{4})-Q([0-9])\z`),
	api.PeriodL:  regexp.MustCompile(`\A([0-9]{4})-P([0-9]{2})\z`),
	api.WeekL:    regexp.MustCompile(`\A([0-9]{4})-W([0-9]{2})\z`),
}

// slowParse reads a unit by the forms.
func slowParse(s string) (api.Unit, api.Errno) {
	for level := 1; level <= 5; level++ {
		parts := slowForms[level].FindStringSubmatch(s)
		if parts == nil {
			continue
		}
		u := unitOf(level, 0, 1)
		u.Year, _ = strconv.Atoi(parts[1])
		if level > 1 {
			u.Index, _ = strconv.Atoi(parts[2])
		}
		if !canBeWritten(u) {
			return api.Unit{}, api.ErrNone
		}
		return u, api.OK
	}
	return api.Unit{}, api.ErrForm
}

var slowDecimal = regexp.MustCompile(`\A(0|-?[1-9][0-9]*)\z`)

// slowNumber reads a decimal number that is least to most.
func slowNumber(s string, least, most int64) (int64, api.Errno) {
	if !slowDecimal.MatchString(s) {
		return 0, api.ErrForm
	}
	n, _ := new(big.Int).SetString(s, 10)
	if !n.IsInt64() || n.Int64() < least || n.Int64() > most {
		return 0, api.ErrOver
	}
	return n.Int64(), api.OK
}

// checkParse holds what is read of a text against the slow reader.
func checkParse(t *testing.T, s string) {
	t.Helper()
	want, wantE := slowParse(s)
	if u, e := label.Parse(s); u != want || e != wantE {
		t.Fatalf("Parse(%q): got %v, %d, want %v, %d", s, u, e, want, wantE)
	}
}

// checkNumber holds what is read of a text as a number against the slow reader.
func checkNumber(t *testing.T, s string) {
	t.Helper()
	want, wantE := slowNumber(s, -1<<63, 1<<63-1)
	if n, e := label.Amount(s); n != want || e != wantE {
		t.Fatalf("Amount(%q): got %d, %d, want %d, %d", s, n, e, want, wantE)
	}
	want, wantE = slowNumber(s, -999999999, 999999999)
	if n, e := label.Small(s); n != int(want) || e != wantE {
		t.Fatalf("Small(%q): got %d, %d, want %d, %d", s, n, e, want, wantE)
	}
}

// P18.1

func TestPrint(t *testing.T) {
	for _, x := range []struct {
		u api.Unit
		s string
	}{
		{unitOf(1, 1601, 1), "1601"}, {unitOf(1, 9997, 1), "9997"}, {unitOf(1, 2000, 1), "2000"},
		{unitOf(2, 2023, 1), "2023-H1"}, {unitOf(2, 2023, 2), "2023-H2"}, {unitOf(3, 2023, 1), "2023-Q1"}, {unitOf(3, 1601, 4), "1601-Q4"},
		{unitOf(4, 2023, 1), "2023-P01"}, {unitOf(4, 2023, 9), "2023-P09"}, {unitOf(4, 2023, 10), "2023-P10"}, {unitOf(4, 2023, 12), "2023-P12"}, {unitOf(4, 9997, 52), "9997-P52"},
		{unitOf(5, 2023, 1), "2023-W01"}, {unitOf(5, 2023, 20), "2023-W20"}, {unitOf(5, 2023, 53), "2023-W53"}, {unitOf(5, 1999, 60), "1999-W60"},
	} {
		if s, e := label.Print(x.u); s != x.s || e != api.OK {
			t.Errorf("Print(%v): got %q, %d, want %q", x.u, s, e, x.s)
		}
	}
}

// TestPrintOfWhatCanNotBe has levels, years and indexes at the edges, behind them, and far away.
func TestPrintOfWhatCanNotBe(t *testing.T) {
	many := 0
	for _, level := range append(probe.Far(3), -1, 0, 1, 2, 3, 4, 5, 6) {
		for _, y := range append(probe.Far(2023), -2023, 0, 160, 1600, 1601, 2023, 9997, 9998, 10000, 20230) {
			for _, n := range append(probe.Far(2), -1, 0, 1, 2, 3, 4, 5, 9, 10, 52, 53, 60, 61, 99, 100) {
				u := unitOf(level, y, n)
				want, wantE := "", api.ErrArg
				if canBeWritten(u) {
					want, wantE = written(u), api.OK
					many++
				}
				if s, e := label.Print(u); s != want || e != wantE {
					t.Errorf("Print(%v): got %q, %d, want %q, %d", u, s, e, want, wantE)
				}
			}
		}
	}
	if many != 3*(1+2+4+8+10) {
		t.Errorf("got %d that can be written", many)
	}
}

// P18.2

func TestParse(t *testing.T) {
	for _, x := range []struct {
		s string
		u api.Unit
		e api.Errno
	}{
		{"1601", unitOf(1, 1601, 1), api.OK}, {"9997", unitOf(1, 9997, 1), api.OK}, {"2023-H2", unitOf(2, 2023, 2), api.OK}, {"2023-Q4", unitOf(3, 2023, 4), api.OK}, {"2023-P05", unitOf(4, 2023, 5), api.OK}, {"2023-P52", unitOf(4, 2023, 52), api.OK}, {"2023-W53", unitOf(5, 2023, 53), api.OK}, {"9997-W60", unitOf(5, 9997, 60), api.OK},
		{"1600", api.Unit{}, api.ErrNone}, {"9998", api.Unit{}, api.ErrNone}, {"9999-W01", api.Unit{}, api.ErrNone}, {"0000", api.Unit{}, api.ErrNone}, {"2023-H0", api.Unit{}, api.ErrNone}, {"2023-H3", api.Unit{}, api.ErrNone}, {"2023-H9", api.Unit{}, api.ErrNone}, {"2023-Q0", api.Unit{}, api.ErrNone}, {"2023-Q5", api.Unit{}, api.ErrNone}, {"2023-P00", api.Unit{}, api.ErrNone}, {"2023-P53", api.Unit{}, api.ErrNone}, {"2023-P99", api.Unit{}, api.ErrNone}, {"2023-W00", api.Unit{}, api.ErrNone}, {"2023-W61", api.Unit{}, api.ErrNone}, {"1600-H1", api.Unit{}, api.ErrNone}, {"1600-H9", api.Unit{}, api.ErrNone},
		{"", api.Unit{}, api.ErrForm}, {"2", api.Unit{}, api.ErrForm}, {"202", api.Unit{}, api.ErrForm}, {"20230", api.Unit{}, api.ErrForm}, {"02023", api.Unit{}, api.ErrForm}, {"2023-", api.Unit{}, api.ErrForm}, {"2023H1", api.Unit{}, api.ErrForm}, {"2023-H", api.Unit{}, api.ErrForm}, {"2023-W", api.Unit{}, api.ErrForm}, {"2023-h1", api.Unit{}, api.ErrForm}, {"2023-w01", api.Unit{}, api.ErrForm}, {"2023-H01", api.Unit{}, api.ErrForm}, {"2023-Q04", api.Unit{}, api.ErrForm}, {"2023-P1", api.Unit{}, api.ErrForm}, {"2023-P012", api.Unit{}, api.ErrForm}, {"2023-W1", api.Unit{}, api.ErrForm}, {"2023-W053", api.Unit{}, api.ErrForm}, {"2023-W5x", api.Unit{}, api.ErrForm}, {"2023-X01", api.Unit{}, api.ErrForm}, {"2023-Y1", api.Unit{}, api.ErrForm}, {"2023-1", api.Unit{}, api.ErrForm}, {"2023-01", api.Unit{}, api.ErrForm}, {"2023-W53-1", api.Unit{}, api.ErrForm},
		{" 2023", api.Unit{}, api.ErrForm}, {"2023 ", api.Unit{}, api.ErrForm}, {"2023 H1", api.Unit{}, api.ErrForm}, {"2023-H 1", api.Unit{}, api.ErrForm}, {"2023-H1 ", api.Unit{}, api.ErrForm}, {"2023-H1\n", api.Unit{}, api.ErrForm}, {"2023\n", api.Unit{}, api.ErrForm}, {"-2023", api.Unit{}, api.ErrForm}, {"+202", api.Unit{}, api.ErrForm}, {"-202", api.Unit{}, api.ErrForm}, {"2023-W+1", api.Unit{}, api.ErrForm}, {"2023-W-1", api.Unit{}, api.ErrForm}, {"2023-H-1", api.Unit{}, api.ErrForm}, {"20x3", api.Unit{}, api.ErrForm}, {"2023-H\xb1", api.Unit{}, api.ErrForm}, {"2023\x00", api.Unit{}, api.ErrForm}, {"２０２３", api.Unit{}, api.ErrForm}, {"16x0-H9", api.Unit{}, api.ErrForm}, {"0000-W0x", api.Unit{}, api.ErrForm},
	} {
		if u, e := label.Parse(x.s); u != x.u || e != x.e {
			t.Errorf("Parse(%q): got %v, %d, want %v, %d", x.s, u, e, x.u, x.e)
		}
	}
}

// TestEachByte turns each byte of texts of each level to each other one, leaves it out, and puts another one ahead of it or behind all.
func TestEachByte(t *testing.T) {
	for _, s := range []string{"2023", "1601", "9997", "2023-H1", "2023-Q4", "2023-P12", "2023-W53", "1600-W01", "9998-P52", "1601-W60"} {
		for i := range len(s) + 1 {
			for b := range 256 {
				checkParse(t, s[:i]+string([]byte{byte(b)})+s[i:])
				if i < len(s) {
					checkParse(t, s[:i]+string([]byte{byte(b)})+s[i+1:])
				}
			}
			checkParse(t, s[:i])
			checkParse(t, s[i:])
			if i < len(s) {
				checkParse(t, s[:i]+s[i+1:])
			}
		}
	}
}

// TestEachEnd puts all short texts of some pieces behind years.
func TestEachEnd(t *testing.T) {
	probe.EachText([]string{"-", "H", "Q", "P", "W", "h", "0", "1", "2", "5", "6", "9", " "}, 4, func(s string) {
		checkParse(t, "2023"+s)
		checkParse(t, "1600"+s)
		checkParse(t, s)
	})
}

// TestEachIndex has all years' and all indexes' digits, those of years that can not be written, too.
func TestEachIndex(t *testing.T) {
	for y := 0; y <= 9999; y++ {
		if y > 1610 && y < 9990 && y%97 > 0 {
			checkParse(t, fmt.Sprintf("%04d", y))
			continue
		}
		for n := range 100 {
			for _, s := range patterns[api.PeriodL:] {
				checkParse(t, fmt.Sprintf(s, y, n))
			}
			checkParse(t, fmt.Sprintf(patterns[api.HalfL], y, n))
			checkParse(t, fmt.Sprintf(patterns[api.QuarterL], y, n))
		}
	}
}

// P18.3

func TestLevel(t *testing.T) {
	names := []string{"year", "half", "quarter", "period", "week"}
	for i, s := range names {
		if n, e := label.Level(s); n != i+1 || e != api.OK {
			t.Errorf("Level(%q): got %d, %d", s, n, e)
		}
		for _, s := range []string{s + "s", s + " ", " " + s, s[1:], s[:len(s)-1], s[:1], strings.ToUpper(s), strings.ToUpper(s[:1]) + s[1:], s + s, s + "\x00", s + "\n", strconv.Itoa(i + 1), names[(i+1)%5] + s} {
			if n, e := label.Level(s); n != 0 || e != api.ErrForm {
				t.Errorf("Level(%q): got %d, %d", s, n, e)
			}
		}
	}
	for _, s := range []string{"", " ", "day", "month", "0", "-H", "H", "\xff", "-"} {
		if n, e := label.Level(s); n != 0 || e != api.ErrForm {
			t.Errorf("Level(%q): got %d, %d", s, n, e)
		}
	}
}

func TestAmountAndSmall(t *testing.T) {
	const ok, form, over = api.OK, api.ErrForm, api.ErrOver
	for _, x := range []struct {
		s    string
		n    int64
		e, f api.Errno // of Amount, and of Small
	}{
		{"0", 0, ok, ok}, {"1", 1, ok, ok}, {"-1", -1, ok, ok}, {"7", 7, ok, ok}, {"9", 9, ok, ok}, {"-9", -9, ok, ok}, {"10", 10, ok, ok}, {"-10", -10, ok, ok}, {"100", 100, ok, ok}, {"2023", 2023, ok, ok},
		{"999999998", 999999998, ok, ok}, {"999999999", 999999999, ok, ok}, {"1000000000", 1000000000, ok, over}, {"-999999999", -999999999, ok, ok}, {"-1000000000", -1000000000, ok, over}, {"4294967297", 1<<32 + 1, ok, over}, {"-4294967295", 1 - 1<<32, ok, over},
		{"999999999999999999", 999999999999999999, ok, over}, {"-999999999999999999", -999999999999999999, ok, over}, {"1000000000000000000", 1000000000000000000, ok, over}, {"9223372036854775806", 1<<63 - 2, ok, over}, {"9223372036854775807", 1<<63 - 1, ok, over}, {"-9223372036854775807", 1 - 1<<63, ok, over}, {"-9223372036854775808", -1 << 63, ok, over},
		{"9223372036854775808", 0, over, over}, {"-9223372036854775809", 0, over, over}, {"9223372036854775810", 0, over, over}, {"-9223372036854775810", 0, over, over}, {"9999999999999999999", 0, over, over}, {"-9999999999999999999", 0, over, over}, {"10000000000000000000", 0, over, over}, {"18446744073709551615", 0, over, over}, {"18446744073709551616", 0, over, over}, {"18446744073709551617", 0, over, over}, {"-18446744073709551617", 0, over, over}, {"99999999999999999999", 0, over, over}, {"340282366920938463463374607431768211457", 0, over, over},
		{"", 0, form, form}, {"-", 0, form, form}, {"+", 0, form, form}, {"-0", 0, form, form}, {"+0", 0, form, form}, {"00", 0, form, form}, {"01", 0, form, form}, {"-00", 0, form, form}, {"-01", 0, form, form}, {"007", 0, form, form}, {"+1", 0, form, form}, {"+7", 0, form, form}, {"--1", 0, form, form}, {"-+1", 0, form, form}, {"1-", 0, form, form}, {"1-1", 0, form, form}, {" 1", 0, form, form}, {"1 ", 0, form, form}, {"- 1", 0, form, form}, {"1\n", 0, form, form}, {"1_000", 0, form, form}, {"1,000", 0, form, form}, {"1.0", 0, form, form}, {"1e3", 0, form, form}, {"0x10", 0, form, form}, {"a", 0, form, form}, {"1a", 0, form, form}, {"\xb1", 0, form, form}, {"１", 0, form, form}, {"/", 0, form, form}, {":", 0, form, form}, {"1/", 0, form, form}, {"1:", 0, form, form},
		{"99999999999999999999x", 0, form, form}, {"099999999999999999999", 0, form, form}, {"-099999999999999999999", 0, form, form}, {"99999999999999999999 ", 0, form, form}, {"18446744073709551617-", 0, form, form},
	} {
		if n, e := label.Amount(x.s); n != x.n || e != x.e {
			t.Errorf("Amount(%q): got %d, %d, want %d, %d", x.s, n, e, x.n, x.e)
		}
		small := 0
		if x.f == ok {
			small = int(x.n)
		}
		if n, e := label.Small(x.s); n != small || e != x.f {
			t.Errorf("Small(%q): got %d, %d, want %d, %d", x.s, n, e, small, x.f)
		}
	}
}

// TestNumbersBySlowReader has all short texts of some pieces, each byte in places of a number, and numbers of all lengths and at the edges.
func TestNumbersBySlowReader(t *testing.T) {
	probe.EachText([]string{"-", "+", "0", "1", "9", " ", "x", "99999999"}, 5, func(s string) { checkNumber(t, s) })
	for _, s := range []string{"0", "7", "-7", "120", "-9223372036854775808", "9223372036854775807", "999999999"} {
		for i := range len(s) + 1 {
			for b := range 256 {
				checkNumber(t, s[:i]+string([]byte{byte(b)})+s[i:])
				if i < len(s) {
					checkNumber(t, s[:i]+string([]byte{byte(b)})+s[i+1:])
				}
			}
		}
	}
	for many := range 45 {
		for _, s := range []string{strings.Repeat("9", many), "1" + strings.Repeat("0", many), "9" + strings.Repeat("2", many), "5" + strings.Repeat("7", many)} {
			checkNumber(t, s)
			checkNumber(t, "-"+s)
		}
	}
	for _, middle := range []int64{0, 99, 999999999, -999999999, 1 << 31, 1 << 32, -1 << 32, 1<<63 - 200, -1<<63 + 200, 922337203685477580, -922337203685477580, 1000000000000000000} {
		for near := int64(-150); near <= 150; near++ {
			checkNumber(t, strconv.FormatInt(middle+near, 10))
		}
	}
	edge, _ := new(big.Int).SetString("9223372036854775807", 10)
	for near := int64(-150); near <= 150; near++ {
		s := new(big.Int).Add(edge, big.NewInt(near)).String()
		checkNumber(t, s)
		checkNumber(t, "-"+s)
	}
}

// TestLongNumbers has a number of very many digits.
func TestLongNumbers(t *testing.T) {
	nines := strings.Repeat("9", 1<<16)
	for s, want := range map[string]api.Errno{nines: api.ErrOver, "-" + nines: api.ErrOver, nines + "x": api.ErrForm, "0" + nines: api.ErrForm} {
		if n, e := label.Amount(s); n != 0 || e != want {
			t.Errorf("%d bytes: got %d, %d, want %d", len(s), n, e, want)
		}
		if n, e := label.Small(s); n != 0 || e != want {
			t.Errorf("%d bytes: got %d, %d, want %d", len(s), n, e, want)
		}
	}
}

// P18.4

// TestEachUnit writes all units that can be written, and reads them.
func TestEachUnit(t *testing.T) {
	for y := 1601; y <= 9997; y++ {
		for level := 1; level <= 5; level++ {
			for n := 1; n <= most[level]; n++ {
				u := unitOf(level, y, n)
				s, e := label.Print(u)
				v, f := label.Parse(s)
				if s != written(u) || v != u || e != api.OK || f != api.OK {
					t.Fatalf("%v: got %q, %d, read as %v, %d", u, s, e, v, f)
				}
			}
		}
	}
}

// TestWhatIsReadIsWrittenSo reads all texts of some years' digits, and writes what is told.
func TestWhatIsReadIsWrittenSo(t *testing.T) {
	many := 0
	for _, y := range []string{"1601", "2023", "9997"} {
		probe.EachText([]string{"-H", "-Q", "-P", "-W", "0", "1", "2", "3", "4", "5", "6", "7", "8", "9"}, 3, func(s string) {
			u, e := label.Parse(y + s)
			if e != api.OK {
				return
			}
			many++
			if back, e := label.Print(u); back != y+s || e != api.OK {
				t.Fatalf("%q: got %v, written as %q, %d", y+s, u, back, e)
			}
		})
	}
	if many != 3*(1+2+4+52+60) {
		t.Errorf("got %d that are read", many)
	}
}
