package stamp

import (
	"testing"

	"quarterday/api"
	"quarterday/civil"
	"quarterday/week"
)

const (
	least   = -1 << 63
	most    = 1<<63 - 1
	lastDay = 3068036
)

// noDays are numbers that no day has.
var noDays = []int{-1, lastDay + 1, -2, lastDay + 2, -146097, lastDay + 146097, 1 << 32, -1 << 32, least, least + 1, most - 1, most}

// pairs are days, and both of their texts.
var pairs = []struct {
	day    int
	s, iso string
}{
	{0, "1600-01-01", "1599-W52-6"},
	{1, "1600-01-02", "1599-W52-7"},
	{2, "1600-01-03", "1600-W01-1"},
	{30, "1600-01-31", "1600-W05-1"},
	{31, "1600-02-01", "1600-W05-2"},
	{59, "1600-02-29", "1600-W09-2"},
	{60, "1600-03-01", "1600-W09-3"},
	{365, "1600-12-31", "1600-W52-7"},
	{366, "1601-01-01", "1601-W01-1"},
	{36583, "1700-02-28", "1700-W08-7"},
	{36584, "1700-03-01", "1700-W09-1"},
	{146096, "1999-12-31", "1999-W52-5"},
	{146097, "2000-01-01", "1999-W52-6"},
	{146099, "2000-01-03", "2000-W01-1"},
	{146156, "2000-02-29", "2000-W09-2"},
	{153767, "2020-12-31", "2020-W53-4"},
	{153770, "2021-01-03", "2020-W53-7"},
	{153771, "2021-01-04", "2021-W01-1"},
	{154922, "2024-02-29", "2024-W09-4"},
	{154923, "2024-03-01", "2024-W09-5"},
	{155137, "2024-10-01", "2024-W40-2"},
	{155227, "2024-12-30", "2025-W01-1"},
	{155228, "2024-12-31", "2025-W01-2"},
	{lastDay - 4, "9999-12-27", "9999-W52-1"},
	{lastDay, "9999-12-31", "9999-W52-5"},
}

// places are where the digits of each of the two forms stand.
const (
	datePlaces = "dddd-dd-dd"
	isoPlaces  = "dddd-Wdd-d"
)

func isDigit(c byte) bool { return c >= '0' && c <= '9' }

// hasPlaces is asked apart from the program.
func hasPlaces(s, places string) bool {
	if len(s) != 10 {
		return false
	}
	for i := 0; i < 10; i++ {
		if places[i] == 'd' && !isDigit(s[i]) || places[i] != 'd' && s[i] != places[i] {
			return false
		}
	}
	return true
}

// value reads the digits of s from one place to ahead of another one.
func value(s string, from, to int) int {
	n := 0
	for ; from < to; from++ {
		n = 10*n + int(s[from]) - '0'
	}
	return n
}

// two and four write numbers digit by digit.
func two(n int) string { return string([]byte{byte('0' + n/10), byte('0' + n%10)}) }

func four(n int) string { return two(n/100) + two(n%100) }

func checkParse(t *testing.T, s string, day int, want api.Errno) {
	t.Helper()
	if n, e := Parse(s); n != day || e != want {
		t.Errorf("Parse(%q): got %d, %d, want %d, %d", s, n, e, day, want)
	}
}

func checkParseIso(t *testing.T, s string, day int, want api.Errno) {
	t.Helper()
	if n, e := ParseIso(s); n != day || e != want {
		t.Errorf("ParseIso(%q): got %d, %d, want %d, %d", s, n, e, day, want)
	}
}

// P7.1

func TestPrint(t *testing.T) {
	for _, x := range pairs {
		if s, e := Print(x.day); s != x.s || e != api.OK {
			t.Errorf("Print(%d): got %q, %d, want %q", x.day, s, e, x.s)
		}
	}
	for _, day := range noDays {
		if s, e := Print(day); s != "" || e != api.ErrDate {
			t.Errorf("Print(%d): got %q, %d, want error %d", day, s, e, api.ErrDate)
		}
	}
}

// P7.2

func TestParse(t *testing.T) {
	for _, x := range pairs {
		checkParse(t, x.s, x.day, api.OK)
		checkParse(t, x.iso, 0, api.ErrForm)
	}
	for _, s := range []string{
		"0000-00-00", "0000-01-01", "1599-12-31", "1599-01-01", "0001-01-01", "1600-00-01", "1600-01-00", "9999-12-32", "9999-13-01", "9999-99-99",
		"2024-00-10", "2024-13-10", "2024-99-10", "2024-01-00", "2024-01-32", "2024-04-31", "2024-12-32", "2024-01-99", "2024-02-30", "2023-02-29", "1700-02-29", "1900-02-29", "2100-02-29", "9900-02-29", "2000-02-30",
	} {
		checkParse(t, s, 0, api.ErrDate)
	}
}

// badForms are of neither form, whatever day they seem to tell.
var badForms = []string{
	"", "-", "2", "2000", "2000-02-2", "2000-02-290", "2000-02-29 ", " 2000-02-29", "2000-02-29\n", "2000-02-29\x00", "02000-02-29", "20000-2-29", "200-02-029", "2000-2-029", "2000-002-9", "2000-02-", "2000-02-29-", "-000-02-29", "2000-02-292000-02-29",
	"2000-2-29", "2000-02-9", "2000/02/29", "2000.02.29", "2000_02_29", "20000229", "2000022900", "2000-02/29", "2000/02-29", "29-02-2000", "02-29-2000", "2000--2-29", "2000-02--9", "----------", "          ",
	"+200-02-29", " 200-02-29", "2000-+2-29", "2000- 2-29", "2000-02-+9", "2000-02- 9", "2000-02-2 ", "2000-2 -29", "20_0-02-29", "0x10-02-29", "1e10-02-29", "2000-0b-29", "200o-02-29", "2000-02-2x", "x000-02-29",
	"2000-W09-", "2000-W9-2", "2000-W09-22", "2000-W009-2", "2000-W09-2 ", " 2000-W09-2", "02000-W09-2", "200-W09-02", "2000-W9-02", "2000W09-2", "2000-W092", "2000W092", "2000-W09--", "2000-W09-+", "2000-W09- ", "2000-W09-x", "2000-w09-2", "2000-V09-2", "2000-X09-2", "2000-\x0009-2", "2000-009-2", "2000-W+9-2", "2000-W 9-2", "2000-W-9-2", "2000-W9 -2", "+200-W09-2", "-200-W09-2", "2000W-09-2", "2000/W09/2", "W000-W09-2", "2000-WW9-2", "2000-W0W-2", "2000-W09-W",
	// letters of more than one byte, some of which have a low byte that would fit
	"2000-02-2é", "20é-02-29", "2000é2-29", "20\u0130-02-29", "2000-\u0130-29", "2000-02-\u0130", "2000\u012d2-29", "2000-0\u012d29", "2\u0130\u0130-02-9", "２０００", "2\uff10-02-29", "2000-02-\u0662", "2000-02-\u06f2", "2\u3007-02-29", "\U0001d7d0-02-29", "2000-02-２", "２000-02-29",
	"2000-\u01579-2", "2000-\u01570-2", "2000\u012dW9-2", "2000\u012d09-2", "2000-W\u0130-2", "20\u0130-W09-2", "2000-W09\u012d", "2000-W09-\u0132", "2000-W0\u012d2", "2000-Ｗ-2", "2000-W\u0660-2",
	// bytes that are no letters
	"2000-02-2\xff", "2000-02-\xff9", "2000\xff02-29", "\xff000-02-29", "2000-\xff09-2", "2000-W09\xff2", "2000-W09-\xff", "2000-W\xc009-2", "2000-02-\xc4\xb0", "\xc4\xb0\xc4\xb0-02-29", "\xe2\x80\x92\xe2\x80\x92\xe2\x80\x92\xe2",
	// wrong in their form and in their day
	"2024-02-30 ", "2024/02/30", "0000/00/00", "1599-12-3x", "2023-02-29x", "9999-99-9 ", "1599-W52-5 ", "2021-w53-1", "2024-W54-x", "0000-W00-", "2024-W0-0", "x024-13-32", "x024-W54-9",
}

func TestBadForms(t *testing.T) {
	for _, s := range badForms {
		checkParse(t, s, 0, api.ErrForm)
		checkParseIso(t, s, 0, api.ErrForm)
	}
}

// turned hands on each text in which one byte of s is turned into another one.
func turned(s string, do func(string)) {
	for i := range len(s) {
		for c := range 256 {
			b := []byte(s)
			b[i] = byte(c)
			do(string(b))
		}
	}
}

// TestParseTurned turns each byte: what has the form still has the day that its numbers say, or none.
func TestParseTurned(t *testing.T) {
	for _, base := range []string{"2000-02-29", "1600-01-01", "9999-12-31", "2024-02-30", "2000-W09-2"} {
		turned(base, func(s string) {
			if !hasPlaces(s, datePlaces) {
				checkParse(t, s, 0, api.ErrForm)
				return
			}
			day, e := civil.Day(api.Date{Y: value(s, 0, 4), M: value(s, 5, 7), D: value(s, 8, 10)})
			checkParse(t, s, day, e)
		})
	}
}

// TestLengths takes bytes from texts, and puts some behind them and ahead of them.
func TestLengths(t *testing.T) {
	for _, x := range pairs {
		for n := range 10 {
			checkParse(t, x.s[:n], 0, api.ErrForm)
			checkParse(t, x.s[n+1:], 0, api.ErrForm)
			checkParseIso(t, x.iso[:n], 0, api.ErrForm)
			checkParseIso(t, x.iso[n+1:], 0, api.ErrForm)
		}
		for _, more := range []string{" ", "0", "1", "-", "\x00", "00", x.s, x.iso} {
			checkParse(t, x.s+more, 0, api.ErrForm)
			checkParse(t, more+x.s, 0, api.ErrForm)
			checkParseIso(t, x.iso+more, 0, api.ErrForm)
			checkParseIso(t, more+x.iso, 0, api.ErrForm)
		}
	}
}

// P7.3

func TestPrintIso(t *testing.T) {
	for _, x := range pairs {
		if s, e := PrintIso(x.day); s != x.iso || e != api.OK {
			t.Errorf("PrintIso(%d): got %q, %d, want %q", x.day, s, e, x.iso)
		}
	}
	for _, day := range noDays {
		if s, e := PrintIso(day); s != "" || e != api.ErrDate {
			t.Errorf("PrintIso(%d): got %q, %d, want error %d", day, s, e, api.ErrDate)
		}
	}
}

func TestParseIso(t *testing.T) {
	for _, x := range pairs {
		checkParseIso(t, x.iso, x.day, api.OK)
		checkParseIso(t, x.s, 0, api.ErrForm)
	}
	for _, s := range []string{
		"0000-W00-0", "0000-W01-1", "0001-W01-1", "1598-W53-7", "1599-W52-5", "1599-W52-1", "1599-W51-6", "1599-W51-7", "1599-W53-6", "1599-W01-1", "1599-W52-8", "1600-W00-6", "1600-W53-1",
		"9999-W52-6", "9999-W52-7", "9999-W53-1", "9999-W53-5", "9999-W99-9",
		"2024-W00-1", "2024-W53-1", "2024-W54-1", "2024-W99-1", "2020-W54-1", "2021-W53-1", "2021-W00-1", "2000-W09-0", "2000-W09-8", "2000-W09-9", "2000-W00-8", "2000-W01-0", "2000-W54-0",
	} {
		checkParseIso(t, s, 0, api.ErrDate)
	}
}

func TestParseIsoTurned(t *testing.T) {
	for _, base := range []string{"2000-W09-2", "1599-W52-6", "9999-W52-5", "2020-W53-7", "2021-W53-1", "2000-02-29"} {
		turned(base, func(s string) {
			if !hasPlaces(s, isoPlaces) {
				checkParseIso(t, s, 0, api.ErrForm)
				return
			}
			day, e := week.Day(api.Iso{Y: value(s, 0, 4), W: value(s, 6, 8), D: value(s, 9, 10)})
			checkParseIso(t, s, day, e)
		})
	}
}

// P7.4

// TestWhatIsWrittenIsRead goes through all days, and holds their texts against their numbers, digit by digit.
func TestWhatIsWrittenIsRead(t *testing.T) {
	for day := 0; day <= lastDay; day++ {
		s, e := Print(day)
		n, f := Parse(s)
		d, _ := civil.Of(day)
		if n != day || e != api.OK || f != api.OK || !hasPlaces(s, datePlaces) || value(s, 0, 4) != d.Y || value(s, 5, 7) != d.M || value(s, 8, 10) != d.D {
			t.Fatalf("%d: got %q, %d, and %d, %d", day, s, e, n, f)
		}
		s, e = PrintIso(day)
		n, f = ParseIso(s)
		x, _ := week.Iso(day)
		if n != day || e != api.OK || f != api.OK || !hasPlaces(s, isoPlaces) || value(s, 0, 4) != x.Y || value(s, 6, 8) != x.W || value(s, 9, 10) != x.D {
			t.Fatalf("%d: got %q, %d, and %d, %d", day, s, e, n, f)
		}
	}
}

// years are some of all those that four digits can tell.
var years = []int{0, 1, 1000, 1597, 1598, 1599, 1600, 1601, 1604, 1700, 1999, 2000, 2004, 2020, 2021, 2023, 2024, 2025, 9996, 9997, 9998, 9999}

// TestWhatIsReadIsWritten goes through all texts of the first form that have those years.
func TestWhatIsReadIsWritten(t *testing.T) {
	for _, y := range years {
		many := 0
		for m := range 100 {
			for d := range 100 {
				text := four(y) + "-" + two(m) + "-" + two(d)
				day, e := Parse(text)
				if e != api.OK {
					checkParse(t, text, 0, api.ErrDate)
					continue
				}
				many++
				if s, e := Print(day); s != text || e != api.OK {
					t.Errorf("%q is read as %d, and written as %q, %d", text, day, s, e)
				}
			}
		}
		want := 365
		switch {
		case y < 1600:
			want = 0
		case civil.Leap(y):
			want = 366
		}
		if many != want {
			t.Errorf("of %d %d texts are read, want %d", y, many, want)
		}
	}
}

// TestWhatIsReadIsWrittenIso goes through all texts of the second form that have those years.
func TestWhatIsReadIsWrittenIso(t *testing.T) {
	for _, y := range years {
		many := 0
		for w := range 100 {
			for d := range 10 {
				text := four(y) + "-W" + two(w) + "-" + two(d)[1:]
				day, e := ParseIso(text)
				if e != api.OK {
					checkParseIso(t, text, 0, api.ErrDate)
					continue
				}
				many++
				if s, e := PrintIso(day); s != text || e != api.OK {
					t.Errorf("%q is read as %d, and written as %q, %d", text, day, s, e)
				}
			}
		}
		weeks, _ := week.Many(y)
		want := 7 * weeks
		switch y {
		case 1599, 9999: // of these the calendar has but two days of the last week, and all but two
			want = map[int]int{1599: 2, 9999: 7*52 - 2}[y]
		}
		if many != want {
			t.Errorf("of %d %d texts are read, want %d", y, many, want)
		}
	}
}
