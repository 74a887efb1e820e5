package script_test

import (
	"maps"
	"slices"
	"strings"
	"testing"

	"quarterday/api"
	"quarterday/label"
	"quarterday/lex"
	"quarterday/probe"
	"quarterday/script"
	"quarterday/stamp"
)

const (
	lastDay = api.Days - 1
	least   = -1 << 63
	most    = 1<<63 - 1
)

func unitOf(level, y, n int) api.Unit { return api.Unit{Level: level, Year: y, Index: n} }

// kindsOf are the kinds of words behind each operation's name.
var kindsOf = map[string][]string{
	"day": {"CAL", "DATE", "LEVEL"}, "span": {"CAL", "UNIT"}, "list": {"CAL", "LEVEL", "YEAR"}, "comp": {"CAL", "DATE", "NUMBER"}, "twin": {"CAL", "UNIT", "NUMBER"},
	"split": {"CAL", "LEVEL", "AMOUNT", "DATE", "DATE"}, "post": {"DATE", "AMOUNT"}, "accrue": {"DATE", "DATE", "AMOUNT"}, "roll": {"CAL", "LEVEL", "YEAR"}, "vary": {"CAL", "LEVEL", "YEAR", "NUMBER"},
}

// names are the operations, by kinds.
var names = [...]string{"", "day", "span", "list", "comp", "twin", "split", "post", "accrue", "roll", "vary"}

// words are some of each kind: right ones, and wrong ones with their errors.
var words = map[string]map[string]api.Errno{
	"CAL": {"a": api.OK, "z9-": api.OK, "abcdefghijklmnop": api.OK, "day": api.OK, "": api.ErrName, "A": api.ErrName, "9a": api.ErrName, "-": api.ErrName, "a_": api.ErrName, "abcdefghijklmnopq": api.ErrName, "a\t": api.ErrName, "\xe9": api.ErrName, "a\x00": api.ErrName, "a\n": api.ErrName},
	"DATE": {
		"1600-01-01": api.OK, "9999-12-31": api.OK, "2024-02-29": api.OK,
		"2023-02-29": api.ErrDate, "1599-12-31": api.ErrDate, "2023-13-01": api.ErrDate, "2023-00-01": api.ErrDate, "2023-01-00": api.ErrDate, "0000-00-00": api.ErrDate,
		"": api.ErrForm, "2023-1-01": api.ErrForm, "2023-01-1": api.ErrForm, "20230101": api.ErrForm, "2023-01-011": api.ErrForm, "+023-01-01": api.ErrForm, "2023-W01-1": api.ErrForm, "2023/01/01": api.ErrForm, "10000-01-01": api.ErrForm, "2023-01-0x": api.ErrForm, "2023-02-30\n": api.ErrForm,
	},
	"LEVEL": {"year": api.OK, "half": api.OK, "quarter": api.OK, "period": api.OK, "week": api.OK, "": api.ErrForm, "day": api.ErrForm, "Year": api.ErrForm, "years": api.ErrForm, "wee": api.ErrForm, "1": api.ErrForm, "week\r": api.ErrForm, "month": api.ErrForm},
	"UNIT": {
		"1601": api.OK, "9997": api.OK, "2023-H2": api.OK, "2023-Q4": api.OK, "2023-P52": api.OK, "2023-W60": api.OK,
		"1600": api.ErrNone, "9998-W01": api.ErrNone, "2023-H3": api.ErrNone, "2023-Q0": api.ErrNone, "2023-P53": api.ErrNone, "2023-W61": api.ErrNone, "2023-W00": api.ErrNone,
		"": api.ErrForm, "2023-W1": api.ErrForm, "2023-H01": api.ErrForm, "2023-w01": api.ErrForm, "023": api.ErrForm, "2023-": api.ErrForm, "2023-01-01": api.ErrForm, "-2023": api.ErrForm,
	},
	"YEAR":   smalls,
	"NUMBER": smalls,
	"AMOUNT": {
		"0": api.OK, "1": api.OK, "-1": api.OK, "9223372036854775807": api.OK, "-9223372036854775808": api.OK, "1000000000": api.OK,
		"9223372036854775808": api.ErrOver, "-9223372036854775809": api.ErrOver, "99999999999999999999999": api.ErrOver,
		"": api.ErrForm, "-0": api.ErrForm, "+1": api.ErrForm, "01": api.ErrForm, "-01": api.ErrForm, "1.0": api.ErrForm, "-": api.ErrForm, "1e3": api.ErrForm, "٣": api.ErrForm, "99999999999999999999999x": api.ErrForm,
	},
}

var smalls = map[string]api.Errno{
	"0": api.OK, "7": api.OK, "-3": api.OK, "2023": api.OK, "999999999": api.OK, "-999999999": api.OK,
	"1000000000": api.ErrOver, "-1000000000": api.ErrOver, "9223372036854775808": api.ErrOver,
	"": api.ErrForm, "-0": api.ErrForm, "+1": api.ErrForm, "007": api.ErrForm, "-03": api.ErrForm, "--1": api.ErrForm, "1-": api.ErrForm, "x": api.ErrForm, "0x1": api.ErrForm,
}

// slowParse reads a line word by word, by what lower layers read.
func slowParse(line string) (api.Op, api.Errno) {
	l := []string{""}
	for _, b := range []byte(line) {
		if b == ' ' {
			l = append(l, "")
		} else {
			l[len(l)-1] += string([]byte{b})
		}
	}
	var o api.Op
	for kind, name := range names {
		if kind > 0 && name == l[0] {
			o.Kind = kind
		}
	}
	if o.Kind == 0 || len(l)-1 != len(kindsOf[l[0]]) {
		return api.Op{}, api.ErrForm
	}
	dates := 0
	for i, kind := range kindsOf[l[0]] {
		e := api.OK
		switch w := l[i+1]; kind {
		case "CAL":
			o.Cal = w
			if !lex.Name(w) {
				e = api.ErrName
			}
		case "DATE":
			if dates++; dates == 1 {
				o.From, e = stamp.Parse(w)
			} else {
				o.To, e = stamp.Parse(w)
			}
		case "LEVEL":
			o.Level, e = label.Level(w)
		case "UNIT":
			o.Unit, e = label.Parse(w)
		case "YEAR":
			o.Year, e = label.Small(w)
		case "NUMBER":
			o.K, e = label.Small(w)
		case "AMOUNT":
			o.N, e = label.Amount(w)
		}
		if e != api.OK {
			return api.Op{}, e
		}
	}
	return o, api.OK
}

// checkParse holds what is read of a line against the slow reader; what is read is written so.
func checkParse(t *testing.T, line string) {
	t.Helper()
	want, wantE := slowParse(line)
	o, e := script.Parse(line)
	if o != want || e != wantE {
		t.Fatalf("Parse(%q): got %+v, %d, want %+v, %d", line, o, e, want, wantE)
	}
	if e != api.OK {
		return
	}
	if back, e := script.Print(o); back != line || e != api.OK {
		t.Fatalf("Print(%+v): got %q, %d, want %q", o, back, e, line)
	}
}

// checkNoOp holds all that is told of an operation that may not be.
func checkNoOp(t *testing.T, o api.Op) {
	t.Helper()
	if s, e := script.Print(o); s != "" || e != api.ErrArg {
		t.Fatalf("Print(%+v): got %q, %d", o, s, e)
	}
	if l, b, e := script.Do(nil, api.Book{Posts: []api.Post{{Day: 1}}}, o); len(l)+len(b.Posts)+len(b.Accs) != 0 || e != api.ErrArg {
		t.Fatalf("Do(%+v): got %q, %v, %d", o, l, b, e)
	}
}

// said are lines, and the operations that they say.
var said = []struct {
	line string
	o    api.Op
}{
	{"day a 1600-01-01 year", api.Op{Kind: api.DayO, Cal: "a", Level: 1}}, {"day a-9 9999-12-31 week", api.Op{Kind: api.DayO, Cal: "a-9", From: lastDay, Level: 5}}, {"day day 2000-02-29 quarter", api.Op{Kind: api.DayO, Cal: "day", From: 146156, Level: 3}},
	{"span a 2023-P05", api.Op{Kind: api.SpanO, Cal: "a", Unit: unitOf(4, 2023, 5)}}, {"span abcdefghijklmnop 1601", api.Op{Kind: api.SpanO, Cal: "abcdefghijklmnop", Unit: unitOf(1, 1601, 1)}}, {"span a 9997-W60", api.Op{Kind: api.SpanO, Cal: "a", Unit: unitOf(5, 9997, 60)}},
	{"list a half 2023", api.Op{Kind: api.ListO, Cal: "a", Level: 2, Year: 2023}}, {"list a week -999999999", api.Op{Kind: api.ListO, Cal: "a", Level: 5, Year: -999999999}}, {"list a year 999999999", api.Op{Kind: api.ListO, Cal: "a", Level: 1, Year: 999999999}}, {"list a year 0", api.Op{Kind: api.ListO, Cal: "a", Level: 1}},
	{"comp a 2000-02-29 -3", api.Op{Kind: api.CompO, Cal: "a", From: 146156, K: -3}}, {"comp a 1600-01-02 0", api.Op{Kind: api.CompO, Cal: "a", From: 1}}, {"comp a 1600-01-01 999999999", api.Op{Kind: api.CompO, Cal: "a", K: 999999999}},
	{"twin a 2023-H2 1", api.Op{Kind: api.TwinO, Cal: "a", Unit: unitOf(2, 2023, 2), K: 1}}, {"twin a 2023-Q4 -999999999", api.Op{Kind: api.TwinO, Cal: "a", Unit: unitOf(3, 2023, 4), K: -999999999}},
	{"split a period -9223372036854775808 1600-01-02 1600-01-01", api.Op{Kind: api.SplitO, Cal: "a", Level: 4, N: least, From: 1}}, {"split a week 9223372036854775807 1600-01-01 9999-12-31", api.Op{Kind: api.SplitO, Cal: "a", Level: 5, N: most, To: lastDay}}, {"split a week 0 2000-02-29 2000-03-01", api.Op{Kind: api.SplitO, Cal: "a", Level: 5, From: 146156, To: 146157}},
	{"post 9999-12-31 9223372036854775807", api.Op{Kind: api.PostO, From: lastDay, N: most}}, {"post 1600-01-01 0", api.Op{Kind: api.PostO}}, {"post 2000-02-29 -9223372036854775808", api.Op{Kind: api.PostO, From: 146156, N: least}},
	{"accrue 1600-01-02 1600-01-03 10", api.Op{Kind: api.AccrueO, From: 1, To: 2, N: 10}}, {"accrue 9999-12-31 1600-01-01 -10", api.Op{Kind: api.AccrueO, From: lastDay, N: -10}}, {"accrue 1600-01-01 1600-01-01 0", api.Op{Kind: api.AccrueO}},
	{"roll a quarter 2023", api.Op{Kind: api.RollO, Cal: "a", Level: 3, Year: 2023}}, {"roll a year -1", api.Op{Kind: api.RollO, Cal: "a", Level: 1, Year: -1}},
	{"vary a period 2023 999999999", api.Op{Kind: api.VaryO, Cal: "a", Level: 4, Year: 2023, K: 999999999}}, {"vary a week 0 -1", api.Op{Kind: api.VaryO, Cal: "a", Level: 5, K: -1}}, {"vary vary half -5 0", api.Op{Kind: api.VaryO, Cal: "vary", Level: 2, Year: -5}},
}

// P24.1

func TestParseAndPrint(t *testing.T) {
	for _, x := range said {
		if o, e := script.Parse(x.line); o != x.o || e != api.OK {
			t.Errorf("Parse(%q): got %+v, %d", x.line, o, e)
		}
		if s, e := script.Print(x.o); s != x.line || e != api.OK {
			t.Errorf("Print(%+v): got %q, %d, want %q", x.o, s, e, x.line)
		}
		checkParse(t, x.line)
	}
}

func TestParseRefuses(t *testing.T) {
	const form, name = api.ErrForm, api.ErrName
	for _, x := range []struct {
		line string
		e    api.Errno
	}{
		{"", form}, {" ", form}, {"  ", form}, {"\n", form}, {"x", form}, {"day", form}, {"Day a 2024-02-03 week", form}, {"days a 2024-02-03 week", form}, {"da a 2024-02-03 week", form}, {"#", form}, {"ok", form}, {"error 5", form}, {"CAL", form}, {"1 a 2024-02-03 week", form}, {"\xff", form}, {"\x00", form}, {"day\ta\t2024-02-03\tweek", form},
		{" day a 2024-02-03 week", form}, {"day  a 2024-02-03 week", form}, {"day a  2024-02-03 week", form}, {"day a 2024-02-03  week", form}, {"day a 2024-02-03 week ", form}, {"day a 2024-02-03", form}, {"day a 2024-02-03 ", form}, {"day a", form}, {"day ", form}, {"day   ", name}, {"day a 2024-02-03 week 1", form}, {"post 2023-02-06 1 ", form}, {"post  2023-02-06 1", form}, {"post 2023-02-06", form}, {"post 2023-02-06 ", form}, {"span a 2023 1", form}, {"twin a 2023", form}, {"vary a week 2023", form}, {"roll a week 2023 1", form}, {"split a week 1 2023-02-06", form}, {"accrue 2023-02-06 1", form},
		{"day a 2024-02-30 week", api.ErrDate}, {"day a 2024-02-3 week", form}, {"day A 2024-02-30 week", name}, {"day a 2024-02-30 weeks", api.ErrDate}, {"day a 2024-02-03 weeks", form}, {"day A 2024-02-30 weeks 1", form}, {"day abcdefghijklmnopq 2024-02-03 week", name}, {"day a 2024-02-03 week\r", form}, {"day a 2024-02-03 week\n", form}, {"post 2024-02-03 1\n", form},
		{"list a week 01", form}, {"list a week +1", form}, {"list a week -0", form}, {"list a week 1000000000", api.ErrOver}, {"list a week -1000000000", api.ErrOver}, {"list a weeks 1000000000", form}, {"list A weeks 1000000000", name}, {"vary a week 1000000000 x", api.ErrOver}, {"vary a week x 1000000000", form}, {"vary a week 2023 1000000000", api.ErrOver}, {"comp a 2024-02-30 1000000000", api.ErrDate}, {"comp a 2024-02-03 1000000000", api.ErrOver}, {"comp a 2024-02-03 1.5", form},
		{"span a 2022-W61", api.ErrNone}, {"span a 2022-W6", form}, {"span A 2022-W61", name}, {"span a 1600", api.ErrNone}, {"twin a 2022-W61 1000000000", api.ErrNone}, {"twin a 2022-W6 1000000000", form}, {"twin a 2022-W60 1000000000", api.ErrOver},
		{"split a week 9223372036854775808 2023-02-30 x", api.ErrOver}, {"split a week x 2023-02-30 x", form}, {"split a week 1 2023-02-30 x", api.ErrDate}, {"split a week 1 x 2023-02-30", form}, {"split a week 1 2023-02-03 2023-02-30", api.ErrDate}, {"split a x 9223372036854775808 2023-02-30 x", form}, {"post 2024-02-03 9223372036854775808", api.ErrOver}, {"post 2024-02-30 9223372036854775808", api.ErrDate}, {"post 2024-02-03 -9223372036854775809", api.ErrOver}, {"accrue 2024-02-30 2024-02-3 x", api.ErrDate}, {"accrue 2024-02-3 2024-02-30 9223372036854775808", form}, {"accrue 2024-02-03 2024-02-30 x", api.ErrDate}, {"accrue 2024-02-03 2024-02-04 --1", form},
	} {
		if o, e := script.Parse(x.line); o != (api.Op{}) || e != x.e {
			t.Errorf("Parse(%q): got %+v, %d, want %d", x.line, o, e, x.e)
		}
		checkParse(t, x.line)
	}
}

// eachLine hands on all lines of right and of wrong words of an operation, and the error of the first wrong one.
func eachLine(line string, kinds []string, e api.Errno, do func(line string, e api.Errno)) {
	if len(kinds) == 0 {
		do(line, e)
		return
	}
	for _, w := range slices.Sorted(maps.Keys(words[kinds[0]])) {
		wrong := words[kinds[0]][w]
		if e != api.OK {
			wrong = e
		}
		eachLine(line+" "+w, kinds[1:], wrong, do)
	}
}

// TestEachWord has all lines of right and of wrong words, but of those with many words only some: so two and more are wrong in one line.
func TestEachWord(t *testing.T) {
	for name, kinds := range kindsOf {
		turn, step := 0, map[int]int{2: 1, 3: 1, 4: 7, 5: 83}[len(kinds)]
		eachLine(name, kinds, api.OK, func(line string, want api.Errno) {
			if turn++; turn%step > 0 {
				return
			}
			if _, e := script.Parse(line); e != want {
				t.Fatalf("Parse(%q): got %d, want %d", line, e, want)
			}
			checkParse(t, line)
			checkParse(t, line+" ")
			checkParse(t, line+" a")
		})
	}
}

// TestEachByte turns each byte of lines to each other one, leaves it out, and puts another one ahead of it or behind all.
func TestEachByte(t *testing.T) {
	for _, x := range said {
		s := x.line
		for i := range len(s) + 1 {
			for b := range 256 {
				checkParse(t, s[:i]+string([]byte{byte(b)})+s[i:])
				if i < len(s) {
					checkParse(t, s[:i]+string([]byte{byte(b)})+s[i+1:])
				}
			}
			checkParse(t, s[:i])
			checkParse(t, s[i:])
			checkParse(t, s[:i]+"  "+s[i:])
			if i < len(s) {
				checkParse(t, s[:i]+s[i+1:])
			}
		}
	}
}

// TestLongLines has lines of very many words, and of a very long one.
func TestLongLines(t *testing.T) {
	long := strings.Repeat("9", 1<<20)
	for line, want := range map[string]api.Errno{
		strings.Repeat(" ", 1<<20): api.ErrForm, "post" + strings.Repeat(" ", 1<<20): api.ErrForm, "post 2023-01-01 1" + strings.Repeat(" 1", 1<<20): api.ErrForm, long: api.ErrForm,
		"post 2023-01-01 " + long: api.ErrOver, "post 2023-01-01 -" + long: api.ErrOver, "post " + long + " 1": api.ErrForm, "day " + strings.Repeat("a", 1<<20) + " 2023-01-01 week": api.ErrName, "list a week " + long: api.ErrOver, "span a " + long: api.ErrForm, "list a " + long + " 1": api.ErrForm,
	} {
		if o, e := script.Parse(line); o != (api.Op{}) || e != want {
			t.Errorf("%d bytes: got %+v, %d, want %d", len(line), o, e, want)
		}
	}
}

// TestPrintRefuses has operations with something in them that their kind has not, and with numbers at the edges and beyond.
func TestPrintRefuses(t *testing.T) {
	for _, x := range said {
		for _, change := range changes() {
			o := x.o
			change(&o)
			line := ""
			for kind := range names {
				if kind == o.Kind && kind > 0 {
					line = slowPrint(o)
				}
			}
			if said, e := slowParse(line); e == api.OK && said == o {
				checkParse(t, line)
				if s, e := script.Print(o); s != line || e != api.OK {
					t.Fatalf("Print(%+v): got %q, %d, want %q", o, s, e, line)
				}
				continue
			}
			checkNoOp(t, o)
		}
	}
	for _, kind := range append(probe.Far(api.PostO), 0, -1, 11, 12) {
		checkNoOp(t, api.Op{Kind: kind})
		checkNoOp(t, api.Op{Kind: kind, Cal: "a", Level: 1, Year: 2023})
	}
}

// changes are what makes operations others, of which most may not be.
func changes() []func(o *api.Op) {
	var l []func(o *api.Op)
	numbers := append(probe.Far(1), 0, 1, -1, 2, 5, 6, 999999999, 1000000000, -999999999, -1000000000, lastDay, lastDay+1)
	for _, n := range numbers {
		l = append(l,
			func(o *api.Op) { o.Level = n }, func(o *api.Op) { o.From = n }, func(o *api.Op) { o.To = n }, func(o *api.Op) { o.Year = n }, func(o *api.Op) { o.K = n }, func(o *api.Op) { o.N = int64(n) }, func(o *api.Op) { o.Kind = n },
			func(o *api.Op) { o.Unit.Level = n }, func(o *api.Op) { o.Unit.Year = n }, func(o *api.Op) { o.Unit.Index = n },
		)
	}
	for _, s := range []string{"", "a", "A", "a b", " ", "a ", " a", "a\n", "9", "abcdefghijklmnop", "abcdefghijklmnopq", "a 1600-01-01", "\xff"} {
		l = append(l, func(o *api.Op) { o.Cal = s })
	}
	for _, u := range []api.Unit{{}, unitOf(1, 2023, 1), unitOf(1, 2023, 2), unitOf(1, 1600, 1), unitOf(5, 9997, 60), unitOf(5, 9997, 61), unitOf(4, 2023, 53), unitOf(4, 2023, 0), unitOf(6, 2023, 1)} {
		l = append(l, func(o *api.Op) { o.Unit = u })
	}
	for kind := 1; kind <= 10; kind++ {
		l = append(l, func(o *api.Op) { o.Kind = kind })
	}
	return l
}
