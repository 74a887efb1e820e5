package script_test

import (
	"fmt"
	"slices"
	"strconv"
	"strings"
	"testing"

	"quarterday/api"
	"quarterday/book"
	"quarterday/comp"
	"quarterday/conf"
	"quarterday/find"
	"quarterday/label"
	"quarterday/probe"
	"quarterday/rate"
	"quarterday/script"
	"quarterday/stamp"
	"quarterday/twin"
	"quarterday/unit"
	"quarterday/vary"
)

// config has the retailers' years, 2023 of which has 53 weeks, with two policies, and years by months.
const config = "calendar a { end nrf; serve 2022 2024; compare drop; }\ncalendar s { end nrf; serve 2022 2024; compare shift; }\ncalendar g { end month sep; named last; serve 2023 2024; compare clamp; }\n"

// cals are the calendars of config.
func cals(t *testing.T) []api.Cal {
	t.Helper()
	l, _, e := conf.Read(config)
	if e != api.OK {
		t.Fatalf("got %d", e)
	}
	return l
}

// slowPrint writes what an operation says, whether it may be or not.
func slowPrint(o api.Op) string {
	date := func(day int) string { s, _ := stamp.Print(day); return s }
	u, _ := label.Print(o.Unit)
	level := ""
	if o.Level >= 1 && o.Level <= 5 {
		level = []string{"year", "half", "quarter", "period", "week"}[o.Level-1]
	}
	switch o.Kind {
	case 1:
		return fmt.Sprintf("day %s %s %s", o.Cal, date(o.From), level)
	case 2:
		return fmt.Sprintf("span %s %s", o.Cal, u)
	case 3:
		return fmt.Sprintf("list %s %s %d", o.Cal, level, o.Year)
	case 4:
		return fmt.Sprintf("comp %s %s %d", o.Cal, date(o.From), o.K)
	case 5:
		return fmt.Sprintf("twin %s %s %d", o.Cal, u, o.K)
	case 6:
		return fmt.Sprintf("split %s %s %d %s %s", o.Cal, level, o.N, date(o.From), date(o.To))
	case 7:
		return fmt.Sprintf("post %s %d", date(o.From), o.N)
	case 8:
		return fmt.Sprintf("accrue %s %s %d", date(o.From), date(o.To), o.N)
	case 9:
		return fmt.Sprintf("roll %s %s %d", o.Cal, level, o.Year)
	}
	return fmt.Sprintf("vary %s %s %d %d", o.Cal, level, o.Year, o.K)
}

// slowDo tells what an operation that may be tells, by what lower layers tell.
func slowDo(l []api.Cal, b api.Book, o api.Op) ([]string, api.Book, api.Errno) {
	switch o.Kind {
	case api.PostO:
		next, e := book.Put(b, api.Post{Day: o.From, N: o.N})
		return told(e, "ok"), next, e
	case api.AccrueO:
		next, e := book.Accrue(b, api.Accrual{Span: api.Span{From: o.From, To: o.To}, N: o.N})
		return told(e, "ok"), next, e
	}
	c, e := conf.Find(l, o.Cal)
	if e != api.OK {
		return nil, api.Book{}, e
	}
	lines, e := slowAsk(c, b, o)
	if e != api.OK {
		return nil, api.Book{}, e
	}
	return lines, b, api.OK
}

// told is a line, if there is no error.
func told(e api.Errno, line string) []string {
	if e != api.OK {
		return nil
	}
	return []string{line}
}

func slowAsk(c api.Cal, b api.Book, o api.Op) ([]string, api.Errno) {
	date := func(day int) string { s, _ := stamp.Print(day); return s }
	span := func(s api.Span) string { return date(s.From) + " " + date(s.To) }
	name := func(u api.Unit) string { s, _ := label.Print(u); return s }
	var lines []string
	switch o.Kind {
	case api.DayO:
		u, e := find.Day(c, o.From, o.Level)
		return told(e, name(u)), e
	case api.SpanO:
		s, e := unit.Span(c, o.Unit)
		return told(e, span(s)), e
	case api.ListO:
		l, e := find.All(c, o.Level, o.Year, o.Year)
		for _, u := range l {
			s, _ := unit.Span(c, u)
			lines = append(lines, name(u)+" "+span(s))
		}
		return lines, e
	case api.CompO:
		day, e := comp.Day(c, o.From, o.K)
		return told(e, date(day)), e
	case api.TwinO:
		l, e := twin.Runs(c, o.Unit, o.K)
		for _, s := range l {
			lines = append(lines, span(s))
		}
		return lines, e
	case api.SplitO:
		l, e := rate.Split(c, o.Level, o.N, api.Span{From: o.From, To: o.To})
		for _, s := range l {
			lines = append(lines, fmt.Sprintf("%s %d", name(s.Unit), s.N))
		}
		return lines, e
	case api.RollO:
		l, e := book.Roll(c, o.Level, o.Year, b)
		for _, s := range l {
			lines = append(lines, fmt.Sprintf("%s %d", name(s.Unit), s.N))
		}
		return lines, e
	}
	l, e := vary.Table(c, o.Level, o.Year, o.K, b)
	for _, r := range l {
		that := fmt.Sprint(r.That)
		if r.Gone {
			that = "gone"
		}
		lines = append(lines, fmt.Sprintf("%s %d %s %d", name(r.Unit), r.This, that, r.Diff))
	}
	return lines, e
}

// sameBook tells whether two books have the same postings and accruals.
func sameBook(a, b api.Book) bool {
	return slices.Equal(a.Posts, b.Posts) && slices.Equal(a.Accs, b.Accs)
}

// copyOf is a book that shares nothing with b.
func copyOf(b api.Book) api.Book {
	return api.Book{Posts: slices.Clone(b.Posts), Accs: slices.Clone(b.Accs)}
}

// checkDo holds what is told of an operation against what should be, and that what is told and what was handed in share nothing.
func checkDo(t *testing.T, l []api.Cal, b api.Book, o api.Op, want []string, wantB api.Book, wantE api.Errno) {
	t.Helper()
	// behind the given lists there is room, with something in it
	given := api.Book{Posts: append(slices.Clone(b.Posts), api.Post{Day: 7})[:len(b.Posts)], Accs: append(slices.Clone(b.Accs), api.Accrual{N: 7})[:len(b.Accs)]}
	kept := copyOf(wantB)
	lines, next, e := script.Do(l, given, o)
	if !slices.Equal(lines, want) || !sameBook(next, kept) || e != wantE {
		t.Fatalf("Do(%+v): got %q, %d and %d, %d, want %q, %d and %d, %d", o, lines, len(next.Posts), len(next.Accs), e, want, len(wantB.Posts), len(wantB.Accs), wantE)
	}
	if !sameBook(given, b) || len(b.Posts) > 0 && given.Posts[:len(b.Posts)+1][len(b.Posts)].Day != 7 || len(b.Accs) > 0 && given.Accs[:len(b.Accs)+1][len(b.Accs)].N != 7 {
		t.Fatalf("Do(%+v): the book that was handed in has changed", o)
	}
	spoil(given)
	if !sameBook(next, kept) {
		t.Fatalf("Do(%+v): the book that was told hangs on the one that was handed in", o)
	}
	given = copyOf(b)
	_, next, _ = script.Do(l, given, o)
	spoil(next)
	if !sameBook(given, b) {
		t.Fatalf("Do(%+v): the book that was handed in hangs on the one that was told", o)
	}
}

// spoil writes into a book, and behind it.
func spoil(b api.Book) {
	for i := range b.Posts {
		b.Posts[i] = api.Post{Day: -9, N: -9}
	}
	for i := range b.Accs {
		b.Accs[i] = api.Accrual{N: -9}
	}
	_, _ = append(b.Posts, api.Post{Day: -8}), append(b.Accs, api.Accrual{N: -8})
}

// checkRun holds what is told of a script over config against what should be.
func checkRun(t *testing.T, text, want string) {
	t.Helper()
	if s, at, e := script.Run(config, text); s != want || at != 0 || e != api.OK {
		t.Errorf("Run(%.300q): got %.300q, %d, %d, want %.300q", text, s, at, e, want)
	}
}

// P24.2

// tableBook has two postings and an accrual of the retailers' weeks 52 of 2022 and 1 of 2023.
func tableBook() api.Book {
	return api.Book{
		Posts: []api.Post{{Day: 154526, N: 300}, {Day: 154896, N: -50000}},
		Accs:  []api.Accrual{{Span: api.Span{From: 154523, To: 154532}, N: 11}},
	}
}

func TestDo(t *testing.T) {
	for _, x := range []struct {
		line string
		told []string
		e    api.Errno
	}{
		{"day a 2024-02-03 week", []string{"2023-W53"}, api.OK}, {"day a 2024-02-03 period", []string{"2023-P12"}, api.OK}, {"day a 2024-02-03 year", []string{"2023"}, api.OK}, {"day g 2024-02-29 week", []string{"2024-W25"}, api.OK}, {"day g 2024-02-29 half", []string{"2024-H1"}, api.OK}, {"day a 2025-02-02 week", nil, api.ErrRange}, {"day b 2025-02-02 week", nil, api.ErrNone},
		{"span a 2023-P12", []string{"2023-12-31 2024-02-03"}, api.OK}, {"span g 2024-W25", []string{"2024-02-29 2024-02-29"}, api.OK}, {"span a 2022-W53", nil, api.ErrNone}, {"span a 2021-W53", nil, api.ErrRange}, {"span g 2024-P13", nil, api.ErrNone},
		{"list a half 2023", []string{"2023-H1 2023-01-29 2023-07-29", "2023-H2 2023-07-30 2024-02-03"}, api.OK}, {"list g year 2024", []string{"2024 2023-10-01 2024-09-30"}, api.OK}, {"list a week 2025", nil, api.ErrRange}, {"list a week -5", nil, api.ErrRange},
		{"comp a 2024-02-04 -1", []string{"2023-01-29"}, api.OK}, {"comp s 2024-02-04 -1", []string{"2023-02-05"}, api.OK}, {"comp g 2024-02-29 -1", []string{"2023-02-28"}, api.OK}, {"comp a 2024-02-03 -1", nil, api.ErrGone}, {"comp a 2024-02-03 2", nil, api.ErrRange}, {"comp s 2023-01-29 -1", []string{"2022-01-23"}, api.OK},
		{"twin a 2023-Q4 -1", []string{"2022-10-30 2023-01-28"}, api.OK}, {"twin s 2023-P12 -1", []string{"2022-12-25 2023-01-28"}, api.OK}, {"twin a 2023-W53 -1", nil, api.ErrGone}, {"twin s 2023-W01 -1", nil, api.ErrRange}, {"twin g 2024-W25 -1", nil, api.ErrGone},
		{"split a week 10 2023-02-03 2023-02-05", []string{"2023-W01 7", "2023-W02 3"}, api.OK}, {"split g period 90 2024-01-31 2024-03-01", []string{"2024-P04 3", "2024-P05 84", "2024-P06 3"}, api.OK}, {"split a year -9223372036854775808 2023-02-03 2023-02-05", []string{"2023 -9223372036854775808"}, api.OK}, {"split a week 10 2023-02-06 2023-02-05", nil, api.ErrArg}, {"split a week 10 2023-02-06 2025-02-05", nil, api.ErrRange},
		{"roll a half 2023", []string{"2023-H1 308", "2023-H2 -50000"}, api.OK}, {"roll a year 2022", []string{"2022 3"}, api.OK}, {"roll g quarter 2023", []string{"2023-Q1 0", "2023-Q2 311", "2023-Q3 0", "2023-Q4 0"}, api.OK}, {"roll a year 2025", nil, api.ErrRange},
		{"vary a half 2023 -1", []string{"2023-H1 308 0 308", "2023-H2 -50000 3 -50003"}, api.OK}, {"vary s year 2024 -1", []string{"2024 0 -50000 50000"}, api.OK}, {"vary a year 2023 0", []string{"2023 -49692 -49692 0"}, api.OK}, {"vary s year 2023 -1", nil, api.ErrRange}, {"vary a year 2023 2", nil, api.ErrRange},
	} {
		o, e := script.Parse(x.line)
		if e != api.OK {
			t.Fatalf("%q: got %d", x.line, e)
		}
		next := tableBook()
		if x.e != api.OK {
			next = api.Book{}
		}
		checkDo(t, cals(t), tableBook(), o, x.told, next, x.e)
	}
	gone := api.Op{Kind: api.VaryO, Cal: "a", Level: api.WeekL, Year: 2023, K: -1}
	if l, _, e := script.Do(cals(t), tableBook(), gone); len(l) != 53 || l[0] != "2023-W01 308 0 308" || l[51] != "2023-W52 0 3 -3" || l[52] != "2023-W53 -50000 gone -50000" || e != api.OK {
		t.Errorf("got %q, %d", l, e)
	}
}

// TestDoOfBooks puts postings and accruals, over no calendars, and over such that may not be.
func TestDoOfBooks(t *testing.T) {
	b := tableBook()
	full := api.Book{Posts: make([]api.Post, 4096), Accs: make([]api.Accrual, 4096)}
	post, accrual := api.Post{Day: 5, N: most}, api.Accrual{Span: api.Span{From: 5, To: lastDay}, N: least}
	for _, l := range [][]api.Cal{nil, cals(t), {{}}, make([]api.Cal, 40)} {
		put := api.Op{Kind: api.PostO, From: 5, N: most}
		accrue := api.Op{Kind: api.AccrueO, From: 5, To: lastDay, N: least}
		ok := []string{"ok"}
		checkDo(t, l, b, put, ok, api.Book{Posts: append(slices.Clone(b.Posts), post), Accs: b.Accs}, api.OK)
		checkDo(t, l, b, accrue, ok, api.Book{Posts: b.Posts, Accs: append(slices.Clone(b.Accs), accrual)}, api.OK)
		checkDo(t, l, api.Book{}, put, ok, api.Book{Posts: []api.Post{post}}, api.OK)
		checkDo(t, l, api.Book{}, accrue, ok, api.Book{Accs: []api.Accrual{accrual}}, api.OK)
		checkDo(t, l, full, put, nil, api.Book{}, api.ErrLong)
		checkDo(t, l, full, accrue, nil, api.Book{}, api.ErrLong)
		checkDo(t, l, b, api.Op{Kind: api.AccrueO, From: 6, To: 5}, nil, api.Book{}, api.ErrArg)
		checkDo(t, l, api.Book{Posts: []api.Post{{Day: -1}}}, put, nil, api.Book{}, api.ErrDate)
		checkDo(t, l, api.Book{Posts: []api.Post{{Day: -1}}}, accrue, nil, api.Book{}, api.ErrDate)
		checkDo(t, l, api.Book{Posts: []api.Post{{Day: -1}}}, api.Op{Kind: api.AccrueO, From: 6, To: 5}, nil, api.Book{}, api.ErrDate)
	}
}

// TestDoRefuses has operations, calendars and books that may not be, and two of these at once.
func TestDoRefuses(t *testing.T) {
	twice := append(cals(t), cals(t)[0])
	many := slices.Repeat(cals(t), 11)
	wrong := append(cals(t), api.Cal{Name: "w"})
	book := api.Book{Posts: []api.Post{{Day: -1}}, Accs: make([]api.Accrual, 5000)}
	for _, x := range said {
		if x.o.Kind == api.PostO || x.o.Kind == api.AccrueO {
			continue
		}
		for _, b := range []api.Book{{}, tableBook(), book} {
			checkDo(t, nil, b, x.o, nil, api.Book{}, api.ErrNone)
			checkDo(t, twice, b, x.o, nil, api.Book{}, api.ErrTwice)
			checkDo(t, many, b, x.o, nil, api.Book{}, api.ErrLong)
			checkDo(t, wrong, b, x.o, nil, api.Book{}, api.ErrArg)
			none := x.o
			none.Cal = "nobody"
			checkDo(t, cals(t), b, none, nil, api.Book{}, api.ErrNone)
			noOp := x.o
			noOp.Cal = "Nobody"
			for _, l := range [][]api.Cal{nil, twice, many, wrong, cals(t)} {
				checkDo(t, l, b, noOp, nil, api.Book{}, api.ErrArg)
			}
		}
	}
	// only what adds up looks at the book; of all others it stays as it is, though it may not be
	checkDo(t, cals(t), book, api.Op{Kind: api.DayO, Cal: "a", From: 154896, Level: 5}, []string{"2023-W53"}, book, api.OK)
	checkDo(t, cals(t), book, api.Op{Kind: api.RollO, Cal: "a", Year: 2023, Level: 1}, nil, api.Book{}, api.ErrLong)
	checkDo(t, cals(t), book, api.Op{Kind: api.VaryO, Cal: "a", Year: 2023, Level: 1}, nil, api.Book{}, api.ErrLong)
	checkDo(t, cals(t), book, api.Op{Kind: api.VaryO, Cal: "a", Year: 2021, Level: 1}, nil, api.Book{}, api.ErrRange)
	book.Accs = nil
	checkDo(t, cals(t), book, api.Op{Kind: api.RollO, Cal: "g", Year: 2023, Level: 5}, nil, api.Book{}, api.ErrDate)
	checkDo(t, cals(t), book, api.Op{Kind: api.SplitO, Cal: "a", Level: 1, From: 154526, To: 154526, N: 1}, []string{"2023 1"}, book, api.OK)
}

// TestDoEach has operations of all kinds over calendars of all kinds.
func TestDoEach(t *testing.T) {
	for _, c := range probe.Serving(2022, 2024) {
		s := probe.Slowly(c)
		bounds := s.Bounds()
		b := probe.Book(bounds, 7, 1000, -7, most, 1, least)
		days := []int{0, lastDay, bounds.From, bounds.From - 1, bounds.To, bounds.To + 1, bounds.From + 400, bounds.From + 735}
		var l []api.Op
		for level := 1; level <= 5; level++ {
			for _, y := range []int{2022, 2023, 2024, 2025, 0} {
				l = append(l, api.Op{Kind: api.ListO, Level: level, Year: y}, api.Op{Kind: api.RollO, Level: level, Year: y})
				for k := -2; k <= 2; k++ {
					l = append(l, api.Op{Kind: api.VaryO, Level: level, Year: y, K: k})
					for _, n := range []int{1, 2, 12, 52, 53} {
						l = append(l, api.Op{Kind: api.SpanO, Unit: unitOf(level, y, n)}, api.Op{Kind: api.TwinO, Unit: unitOf(level, y, n), K: k})
					}
				}
			}
			for i, day := range days {
				l = append(l, api.Op{Kind: api.DayO, From: day, Level: level}, api.Op{Kind: api.CompO, From: day, K: level - 3}, api.Op{Kind: api.SplitO, Level: level, N: 77777, From: day, To: days[(i+level)%len(days)]})
			}
		}
		for _, o := range l {
			o.Cal = c.Name
			if _, e := slowParse(slowPrint(o)); e != api.OK {
				continue
			}
			lines, next, e := slowDo([]api.Cal{c}, b, o)
			checkDo(t, []api.Cal{c}, b, o, lines, next, e)
		}
	}
}

// P24.3

func TestRun(t *testing.T) {
	for _, x := range []struct{ text, want string }{
		{"", ""}, {"\n", "error 5\n"}, {"\n\n", "error 5\nerror 5\n"}, {" ", "error 5\n"}, {"\n ", "error 5\nerror 5\n"}, {"x", "error 5\n"}, {"x\n", "error 5\n"}, {"x\n\n", "error 5\nerror 5\n"}, {"\r\n", "error 5\n"}, {"post 2023-01-29 5\r\n", "error 5\n"},
		{"day a 2024-02-03 week", "2023-W53\n"}, {"day a 2024-02-03 week\n", "2023-W53\n"}, {"\nday a 2024-02-03 week", "error 5\n2023-W53\n"}, {"day a 2024-02-03 week\n\nday g 2024-02-29 week\n\n", "2023-W53\nerror 5\n2024-W25\nerror 5\n"},
		{"post 2023-01-29 5\naccrue 2023-01-26 2023-02-04 11\nroll a half 2023\nroll a year 2022\nroll g year 2023", "ok\nok\n2023-H1 13\n2023-H2 0\n2022 3\n2023 16\n"},
		{"roll a year 2023\npost 2023-01-29 5\nroll a year 2023\npost 2023-01-29 6\nroll a year 2023\n", "2023 0\nok\n2023 5\nok\n2023 11\n"},
		{"post 2023-01-29 5\npost 2022-01-30 7\nvary a year 2023 -1\nvary a half 2023 0", "ok\nok\n2023 5 7 -2\n2023-H1 5 5 0\n2023-H2 0 0 0\n"},
		{"post 2024-02-03 9223372036854775807\npost 2024-02-03 1\nroll a year 2023\npost 2024-02-03 -1\nroll a year 2023\n", "ok\nok\nerror 2\nok\n2023 9223372036854775807\n"},
		// each error
		{"accrue 2023-02-06 2023-02-05 1\npost 2024-02-03 9223372036854775808\nday a 2024-02-30 week\nday a 2024-02-03\nday A 2024-02-03 week\nlist a week 2025\ncomp a 2024-02-03 -1\nspan a 2022-W53\nday b 2024-02-03 week\nsplit a week 10 2023-02-06 2023-02-05\n", "error 1\nerror 2\nerror 4\nerror 5\nerror 8\nerror 11\nerror 12\nerror 13\nerror 13\nerror 1\n"},
		// what is refused changes no book
		{"post 2023-01-29 5\npost 2023-01-32 5\naccrue 2023-01-30 2023-01-29 7\npost 2023-01-29 5 \nroll a year 2023", "ok\nerror 4\nerror 1\nerror 5\n2023 5\n"},
	} {
		checkRun(t, x.text, x.want)
	}
	if s, at, e := script.Run("# nothing\n", "day a 2024-02-03 week\npost 2024-02-03 1"); s != "error 13\nok\n" || at != 0 || e != api.OK {
		t.Errorf("got %q, %d, %d", s, at, e)
	}
}

// TestRunRefuses has configurations that are refused, with their places, and scripts that are too long.
func TestRunRefuses(t *testing.T) {
	long := strings.Repeat("x\n", 10001)
	const block = "calendar a { end nrf; serve 2000 2030; compare shift; }"
	for _, x := range []struct {
		config string
		at     int
		e      api.Errno
	}{
		{"zz", 2, api.ErrForm}, {"calendar a { end nrf; }", 0, api.ErrMiss}, {" calendar a { end nrf; extra 5; }", 23, api.ErrName}, {block + block, len(block), api.ErrTwice}, {"calendar a { serve 99999999999 1; }", 19, api.ErrLong}, {"calendar a { end nrf; serve 2000 1999; compare shift; }", 0, api.ErrArg}, {"a { b { c { d { e { f { g {", 26, api.ErrDeep}, {"A", 0, api.ErrForm}, {strings.Repeat(" ", 65537), 0, api.ErrLong}, {block + " x", len(block) + 2, api.ErrForm},
	} {
		for _, text := range []string{"", "day a 2024-02-03 week", "\n", long} {
			if s, at, e := script.Run(x.config, text); s != "" || at != x.at || e != x.e {
				t.Errorf("%.60q, %.30q: got %q, %d, %d, want %d, %d", x.config, text, s, at, e, x.at, x.e)
			}
		}
	}
	for _, text := range []string{long, long + "x", strings.Repeat("\n", 10001), strings.Repeat("x\n", 10000) + "x", strings.Repeat("\n", 10000) + " ", strings.Repeat("\n", 1<<22), strings.Repeat("post 2023-01-29 5\n", 20000)} {
		for _, config := range []string{"", config} {
			if s, at, e := script.Run(config, text); s != "" || at != 0 || e != api.ErrLong {
				t.Errorf("%d bytes: got %d, %d, %d", len(text), len(s), at, e)
			}
		}
	}
}

// TestRunLengths has scripts of as many lines as there may be, with and without a last byte 10, and one less.
func TestRunLengths(t *testing.T) {
	for _, text := range []string{strings.Repeat("x\n", 10000), strings.Repeat("x\n", 9999) + "x", strings.Repeat("\n", 10000), strings.Repeat("\n", 9999) + "x", strings.Repeat("day a 2023-01-32 week\n", 10000)} {
		want := "error 5\n"
		if strings.HasPrefix(text, "day") {
			want = "error 4\n"
		}
		checkRun(t, text, strings.Repeat(want, 10000))
	}
	checkRun(t, strings.Repeat("x\n", 9999), strings.Repeat("error 5\n", 9999))
	checkRun(t, strings.Repeat("\n", 9998)+"x", strings.Repeat("error 5\n", 9999))
}

// TestRunFullBook puts as many postings and accruals as a book may have, and one more of each.
func TestRunFullBook(t *testing.T) {
	text := strings.Repeat("post 2023-01-29 2\n", 4097) + strings.Repeat("accrue 2023-01-30 2023-02-06 8\n", 4097)
	want := strings.Repeat("ok\n", 4096) + "error 6\n" + strings.Repeat("ok\n", 4096) + "error 6\n"
	text += "roll a year 2023\nroll a week 2023\npost 2023-01-29 2\nvary s half 2022 1\n"
	weeks := "2023-W01 " + strconv.Itoa(2*4096+6*4096) + "\n2023-W02 " + strconv.Itoa(2*4096) + "\n"
	for n := 3; n <= 53; n++ {
		weeks += fmt.Sprintf("2023-W%02d 0\n", n)
	}
	want += "2023 " + strconv.Itoa(10*4096) + "\n" + weeks + "error 6\n2022-H1 0 8192 -8192\n2022-H2 0 0 0\n"
	checkRun(t, text, want)
}

// P24.4

// lines are those of which scripts are put together: some are refused, some put into the book, the others tell.
func lines() []string {
	return []string{
		"post 2023-01-29 5", "day a 2024-02-30 week", "post 2022-06-01 -70", "roll a year 2023", "accrue 2023-01-26 2023-02-04 11", "", "vary a half 2023 -1", "comp a 2024-02-03 -1", "post 2023-01-29 9223372036854775807", "roll a week 2023", "accrue 2023-02-05 2023-02-04 11", "span g 2024-W25", "post 2023-01-29 -9223372036854775808", "vary s year 2023 -1", "roll g period 2023",
		"accrue 2024-12-01 2025-03-01 7", "split a week 10 2023-02-03 2023-02-05", "post 2023-01-29 5 ", "twin a 2023-Q4 -1", "day nobody 2024-02-03 week", "list g half 2024", "post 2024-02-29 x", "vary g week 2024 -1", "roll a quarter 2024", "accrue 2023-09-30 2023-10-01 -3", "roll s half 2022",
	}
}

// scripts are some, made by a fixed rule.
func scripts() [][]string {
	var all [][]string
	state := uint64(1)
	for i := range 30 {
		var l []string
		for range 5 + 2*i {
			state = state*6364136223846793005 + 1442695040888963407
			l = append(l, lines()[int(state>>33)%len(lines())])
		}
		all = append(all, l)
	}
	return append(all, lines())
}

// slowRun does the lines one by one, by what lower layers tell: what each of them tells.
func slowRun(l []api.Cal, text []string) []string {
	var all []string
	b := api.Book{}
	for _, line := range text {
		o, e := slowParse(line)
		var lines []string
		next := b
		if e == api.OK {
			lines, next, e = slowDo(l, b, o)
		}
		if e != api.OK {
			all = append(all, fmt.Sprintf("error %d\n", e))
			continue
		}
		b = next
		all = append(all, strings.Join(lines, "\n")+"\n")
	}
	return all
}

// TestScripts runs scripts, and their beginnings: what is told of a beginning stays.
func TestScripts(t *testing.T) {
	for _, l := range scripts() {
		told := slowRun(cals(t), l)
		for n := len(l); n >= 0; n -= 1 + len(l)/6 {
			text, want := "", strings.Join(told[:n], "")
			for _, line := range l[:n] {
				text += line + "\n"
			}
			checkRun(t, text, want)
			if n > 0 && l[n-1] != "" {
				checkRun(t, text[:len(text)-1], want)
			}
		}
	}
}

// TestRefusedLines leaves out lines that are refused, one by one and all of them: the others tell the same.
func TestRefusedLines(t *testing.T) {
	for _, l := range scripts() {
		told := slowRun(cals(t), l)
		var done []string
		rest := ""
		for at := range l {
			if !strings.HasPrefix(told[at], "error ") {
				done, rest = append(done, l[at]), rest+told[at]
			} else if at%4 == 0 {
				less := slices.Delete(slices.Clone(l), at, at+1)
				checkRun(t, strings.Join(less, "\n")+"\n", strings.Join(slices.Delete(slices.Clone(told), at, at+1), ""))
			}
		}
		checkRun(t, strings.Join(done, "\n"), rest)
	}
}

// TestRunTwice runs a script twice: nothing is kept.
func TestRunTwice(t *testing.T) {
	text := strings.Join(lines(), "\n") + "\n"
	want := strings.Join(slowRun(cals(t), lines()), "")
	checkRun(t, text, want)
	checkRun(t, text, want)
}
