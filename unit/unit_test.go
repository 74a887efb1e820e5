package unit_test

import (
	"testing"

	"quarterday/api"
	"quarterday/probe"
	"quarterday/stamp"
	"quarterday/unit"
)

// The calendars of the tables, from 2000 to 2030: retailers, broadcasters, ISO weeks by pay cycles of two, months that end with September.
func nrf() api.Cal { return probe.Serving(2000, 2030)[2] }

func broad() api.Cal { return probe.Serving(2000, 2030)[3] }

func iso() api.Cal { return probe.Serving(2000, 2030)[4] }

func gov() api.Cal { return probe.Serving(2000, 2030)[5] }

// cutBy is a calendar whose years end on the last Saturday of September, and are cut by a shape; it serves 2000 to 2030, of which 2023 has 53 weeks, and 2024 has 52.
func cutBy(shape int, pat [3]int, cycle, extra int) api.Cal {
	return probe.Whole(api.Cal{Kind: api.LastR, Day: 6, Month: 9, Shape: shape, Pat: pat, Cycle: cycle, Extra: extra})
}

// slow tells the units of years that are cut day by day, or which error there is.
type slow struct {
	probe.Slow
	right bool
}

// slowly cuts the years of a calendar, if it is a right one.
func slowly(c api.Cal, right bool) slow {
	if !right {
		return slow{probe.Slow{Cal: c}, false}
	}
	return slow{probe.Slowly(c), true}
}

// spans are the units of a level of a year, or tell the error why there are none.
func (s slow) spans(level, y int) ([]api.Span, api.Errno) {
	if !s.right || level < 1 || level > 5 {
		return nil, api.ErrArg
	}
	if y < s.Cal.First || y > s.Cal.Last {
		return nil, api.ErrRange
	}
	return s.Years[y].Units[level], api.OK
}

func (s slow) span(u api.Unit) (api.Span, api.Errno) {
	l, e := s.spans(u.Level, u.Year)
	if e != api.OK {
		return api.Span{}, e
	}
	if u.Index < 1 || u.Index > len(l) {
		return api.Span{}, api.ErrNone
	}
	return l[u.Index-1], api.OK
}

// at looks for the unit of a level in which a day of a year lies.
func (s slow) at(level, y, day int) api.Unit {
	l, _ := s.spans(level, y)
	for i, x := range l {
		if x.From <= day && day <= x.To {
			return api.Unit{Level: level, Year: y, Index: i + 1}
		}
	}
	return api.Unit{}
}

func (s slow) up(u api.Unit, level int) (api.Unit, api.Errno) {
	x, e := s.span(u)
	if e == api.OK && (level < 1 || level > u.Level) {
		e = api.ErrArg
	}
	if e != api.OK {
		return api.Unit{}, e
	}
	return s.at(level, u.Year, x.From), api.OK
}

func (s slow) down(u api.Unit, level int) (api.Unit, api.Unit, api.Errno) {
	x, e := s.span(u)
	if e == api.OK && (level > 5 || level < u.Level) {
		e = api.ErrArg
	}
	if e != api.OK {
		return api.Unit{}, api.Unit{}, e
	}
	return s.at(level, u.Year, x.From), s.at(level, u.Year, x.To), api.OK
}

// checkCount holds what is told of a level of a year against what is cut slowly.
func checkCount(t *testing.T, s slow, level, y int) {
	t.Helper()
	l, want := s.spans(level, y)
	if n, e := unit.Count(s.Cal, level, y); n != len(l) || e != want {
		t.Fatalf("Count(%+v, %d, %d): got %d, %d, want %d, %d", s.Cal, level, y, n, e, len(l), want)
	}
}

// checkUnit holds what is told of a unit by itself against what is cut slowly.
func checkUnit(t *testing.T, s slow, u api.Unit) {
	t.Helper()
	span, want := s.span(u)
	if e := unit.Check(s.Cal, u); e != want {
		t.Fatalf("Check(%+v, %v): got %d, want %d", s.Cal, u, e, want)
	}
	if got, e := unit.Span(s.Cal, u); got != span || e != want {
		t.Fatalf("Span(%+v, %v): got %v, %d, want %v, %d", s.Cal, u, got, e, span, want)
	}
}

// checkLevel holds what is told of a unit and a level against what is cut slowly.
func checkLevel(t *testing.T, s slow, u api.Unit, level int) {
	t.Helper()
	want, wantE := s.up(u, level)
	if got, e := unit.Up(s.Cal, u, level); got != want || e != wantE {
		t.Fatalf("Up(%+v, %v, %d): got %v, %d, want %v, %d", s.Cal, u, level, got, e, want, wantE)
	}
	first, last, wantE := s.down(u, level)
	if a, b, e := unit.Down(s.Cal, u, level); a != first || b != last || e != wantE {
		t.Fatalf("Down(%+v, %v, %d): got %v, %v, %d, want %v, %v, %d", s.Cal, u, level, a, b, e, first, last, wantE)
	}
}

// P16.1

func TestCount(t *testing.T) {
	for _, x := range []struct {
		c    api.Cal
		y    int
		many [api.WeekL + 1]int
	}{
		{nrf(), 2023, [...]int{0, 1, 2, 4, 12, 53}}, {nrf(), 2024, [...]int{0, 1, 2, 4, 12, 52}}, {broad(), 2023, [...]int{0, 1, 2, 4, 12, 53}}, {broad(), 2022, [...]int{0, 1, 2, 4, 12, 52}},
		{iso(), 2020, [...]int{0, 1, 2, 4, 26, 53}}, {iso(), 2021, [...]int{0, 1, 2, 4, 26, 52}}, {gov(), 2024, [...]int{0, 1, 2, 4, 12, 60}}, {gov(), 2023, [...]int{0, 1, 2, 4, 12, 59}},
		{cutBy(api.FourS, [3]int{}, 0, 2), 2023, [...]int{0, 1, 2, 4, 13, 53}}, {cutBy(api.CycleS, [3]int{}, 1, 2), 2023, [...]int{0, 1, 2, 4, 52, 53}}, {cutBy(api.CycleS, [3]int{}, 4, 2), 2024, [...]int{0, 1, 2, 4, 13, 52}}, {cutBy(api.PatS, [3]int{4, 4, 5}, 0, 2), 2024, [...]int{0, 1, 2, 4, 12, 52}},
	} {
		for level := 1; level <= 5; level++ {
			if n, e := unit.Count(x.c, level, x.y); n != x.many[level] || e != api.OK {
				t.Errorf("Count(%+v, %d, %d): got %d, %d, want %d", x.c, level, x.y, n, e, x.many[level])
			}
			for _, y := range []int{1999, 2031} {
				if n, e := unit.Count(x.c, level, y); n != 0 || e != api.ErrRange {
					t.Errorf("Count(%+v, %d, %d): got %d, %d", x.c, level, y, n, e)
				}
			}
		}
		for _, level := range append(probe.Far(1), 0, -1, 6, 7) {
			for _, y := range []int{x.y, 1999, 2031} {
				if n, e := unit.Count(x.c, level, y); n != 0 || e != api.ErrArg {
					t.Errorf("Count(%+v, %d, %d): got %d, %d", x.c, level, y, n, e)
				}
			}
		}
	}
}

// TestCheck has the first and the last unit of each level, and what is beside them.
func TestCheck(t *testing.T) {
	for _, c := range []api.Cal{nrf(), broad(), iso(), gov()} {
		for level := 1; level <= 5; level++ {
			for _, y := range []int{2000, 2020, 2023, 2024, 2030} {
				many, _ := unit.Count(c, level, y)
				for index, want := range map[int]api.Errno{-1: api.ErrNone, 0: api.ErrNone, 1: api.OK, many: api.OK, many + 1: api.ErrNone, 61: api.ErrNone, 1 << 32: api.ErrNone, 1<<32 + 1: api.ErrNone} {
					if e := unit.Check(c, api.Unit{Level: level, Year: y, Index: index}); e != want {
						t.Errorf("Check(%+v, %d, %d, %d): got %d, want %d", c, level, y, index, e, want)
					}
				}
			}
		}
	}
}

// P16.2

func TestSpan(t *testing.T) {
	extra := func(shape, cycle, extra int) api.Cal { return cutBy(shape, [3]int{}, cycle, extra) }
	for _, x := range []struct {
		c        api.Cal
		u        api.Unit
		from, to string
	}{
		{nrf(), api.Unit{Level: 1, Year: 2024, Index: 1}, "2024-02-04", "2025-02-01"}, {nrf(), api.Unit{Level: 2, Year: 2023, Index: 2}, "2023-07-30", "2024-02-03"}, {nrf(), api.Unit{Level: 3, Year: 2023, Index: 1}, "2023-01-29", "2023-04-29"}, {nrf(), api.Unit{Level: 4, Year: 2023, Index: 7}, "2023-07-30", "2023-08-26"}, {nrf(), api.Unit{Level: 5, Year: 2023, Index: 52}, "2024-01-21", "2024-01-27"}, {nrf(), api.Unit{Level: 5, Year: 2024, Index: 1}, "2024-02-04", "2024-02-10"},
		{broad(), api.Unit{Level: 2, Year: 2023, Index: 1}, "2022-12-26", "2023-06-25"}, {broad(), api.Unit{Level: 3, Year: 2024, Index: 4}, "2024-09-30", "2024-12-29"}, {broad(), api.Unit{Level: 4, Year: 2023, Index: 4}, "2023-03-27", "2023-04-30"}, {broad(), api.Unit{Level: 5, Year: 2023, Index: 53}, "2023-12-25", "2023-12-31"},
		{iso(), api.Unit{Level: 2, Year: 2020, Index: 1}, "2019-12-30", "2020-06-28"}, {iso(), api.Unit{Level: 2, Year: 2020, Index: 2}, "2020-06-29", "2021-01-03"}, {iso(), api.Unit{Level: 3, Year: 2020, Index: 1}, "2019-12-30", "2020-03-22"}, {iso(), api.Unit{Level: 3, Year: 2020, Index: 2}, "2020-03-23", "2020-06-28"}, {iso(), api.Unit{Level: 3, Year: 2021, Index: 3}, "2021-07-05", "2021-09-26"}, {iso(), api.Unit{Level: 4, Year: 2020, Index: 26}, "2020-12-14", "2021-01-03"}, {iso(), api.Unit{Level: 5, Year: 2020, Index: 1}, "2019-12-30", "2020-01-05"},
		{gov(), api.Unit{Level: 1, Year: 2024, Index: 1}, "2023-10-01", "2024-09-30"}, {gov(), api.Unit{Level: 3, Year: 2024, Index: 2}, "2024-01-01", "2024-03-31"}, {gov(), api.Unit{Level: 4, Year: 2024, Index: 5}, "2024-02-01", "2024-02-29"}, {gov(), api.Unit{Level: 4, Year: 2023, Index: 5}, "2023-02-01", "2023-02-28"}, {gov(), api.Unit{Level: 5, Year: 2024, Index: 1}, "2023-10-01", "2023-10-07"}, {gov(), api.Unit{Level: 5, Year: 2024, Index: 10}, "2023-11-29", "2023-11-30"}, {gov(), api.Unit{Level: 5, Year: 2024, Index: 21}, "2024-02-01", "2024-02-07"}, {gov(), api.Unit{Level: 5, Year: 2024, Index: 26}, "2024-03-01", "2024-03-07"}, {gov(), api.Unit{Level: 5, Year: 2023, Index: 25}, "2023-03-01", "2023-03-07"}, {gov(), api.Unit{Level: 5, Year: 2023, Index: 59}, "2023-09-29", "2023-09-30"},
		{extra(api.FourS, 0, 1), api.Unit{Level: 4, Year: 2023, Index: 1}, "2022-09-25", "2022-10-29"}, {extra(api.FourS, 0, 13), api.Unit{Level: 4, Year: 2023, Index: 1}, "2022-09-25", "2022-10-22"}, {extra(api.FourS, 0, 13), api.Unit{Level: 4, Year: 2023, Index: 13}, "2023-08-27", "2023-09-30"}, {extra(api.FourS, 0, 13), api.Unit{Level: 3, Year: 2023, Index: 4}, "2023-06-04", "2023-09-30"}, {extra(api.FourS, 0, 2), api.Unit{Level: 2, Year: 2023, Index: 1}, "2022-09-25", "2023-03-18"}, {extra(api.FourS, 0, 9), api.Unit{Level: 2, Year: 2023, Index: 1}, "2022-09-25", "2023-03-11"},
		{extra(api.CycleS, 1, 1), api.Unit{Level: 4, Year: 2023, Index: 1}, "2022-09-25", "2022-10-08"}, {extra(api.CycleS, 1, 1), api.Unit{Level: 5, Year: 2023, Index: 1}, "2022-09-25", "2022-10-01"}, {extra(api.CycleS, 4, 13), api.Unit{Level: 3, Year: 2024, Index: 4}, "2024-06-09", "2024-09-28"}, {extra(api.CycleS, 2, 26), api.Unit{Level: 4, Year: 2024, Index: 26}, "2024-09-15", "2024-09-28"},
	} {
		s, e := unit.Span(x.c, x.u)
		from, _ := stamp.Print(s.From)
		to, _ := stamp.Print(s.To)
		if from != x.from || to != x.to || e != api.OK {
			t.Errorf("Span(%+v, %v): got %s to %s, %d, want %s to %s", x.c, x.u, from, to, e, x.from, x.to)
		}
	}
}

// checkYear holds all that is told of a year, and of each of its units, against what is cut slowly.
func checkYear(t *testing.T, s slow, y int) {
	t.Helper()
	for level := 1; level <= 5; level++ {
		checkCount(t, s, level, y)
		l, _ := s.spans(level, y)
		for i := range l {
			u := api.Unit{Level: level, Year: y, Index: i + 1}
			checkUnit(t, s, u)
			for other := 0; other <= 6; other++ {
				checkLevel(t, s, u, other)
			}
		}
	}
}

// TestEachUnit has all units of some years of each kind of calendar, of 52 and of 53 weeks, and at the edges of what may be served.
func TestEachUnit(t *testing.T) {
	for _, x := range [][2]int{{1602, 1608}, {2003, 2025}, {9990, 9996}} {
		for _, c := range probe.Serving(x[0], x[1]) {
			s := slowly(c, true)
			for y := c.First; y <= c.Last; y++ {
				checkYear(t, s, y)
			}
		}
	}
}

// TestEachCut has all units of a year of 52 weeks and of one of 53 with each shape, and each period that may have one more.
func TestEachCut(t *testing.T) {
	probe.EachCut(api.Cal{Kind: api.LastR, Day: 6, Month: 9}, func(c api.Cal) {
		s := slowly(probe.Whole(c), true)
		checkYear(t, s, 2023)
		checkYear(t, s, 2024)
	})
}

// TestEachRule has units of years of each rule, from the first year that may be served to the last one.
func TestEachRule(t *testing.T) {
	probe.EachCal(func(c api.Cal) {
		for _, y := range []int{1602, 1700, 1899, 2000, 2006, 2012, 2023, 9996} {
			c.First, c.Last = y, y
			s := slowly(c, true)
			for level := 1; level <= 5; level++ {
				l, _ := s.spans(level, y)
				for _, index := range []int{0, 1, 2, len(l) - 1, len(l), len(l) + 1} {
					checkUnit(t, s, api.Unit{Level: level, Year: y, Index: index})
				}
				checkCount(t, s, level, y)
				checkCount(t, s, level, y-1)
				checkCount(t, s, level, y+1)
			}
		}
	})
}

// P16.3

func TestUpAndDown(t *testing.T) {
	pay := cutBy(api.CycleS, [3]int{}, 1, 26)
	for _, x := range []struct {
		c           api.Cal
		y           int
		level, n    int // what lies in the coarser unit
		up, in      int
		first, last int // of that level, all that lie in it
	}{
		{nrf(), 2023, 5, 53, 4, 12, 49, 53}, {nrf(), 2024, 5, 52, 4, 12, 49, 52}, {nrf(), 2023, 5, 5, 4, 2, 5, 9}, {nrf(), 2023, 5, 30, 3, 3, 27, 39}, {nrf(), 2023, 5, 30, 2, 2, 27, 53}, {nrf(), 2023, 5, 30, 1, 1, 1, 53}, {nrf(), 2023, 4, 6, 3, 2, 4, 6}, {nrf(), 2023, 4, 7, 2, 2, 7, 12}, {nrf(), 2023, 3, 2, 2, 1, 1, 2}, {nrf(), 2023, 3, 3, 1, 1, 1, 4}, {nrf(), 2023, 2, 2, 1, 1, 1, 2},
		{iso(), 2020, 4, 6, 3, 1, 1, 6}, {iso(), 2020, 4, 7, 3, 2, 7, 13}, {iso(), 2020, 4, 19, 3, 3, 14, 19}, {iso(), 2020, 4, 20, 3, 4, 20, 26}, {iso(), 2020, 4, 13, 2, 1, 1, 13}, {iso(), 2020, 4, 14, 2, 2, 14, 26}, {iso(), 2020, 5, 53, 4, 26, 51, 53},
		{cutBy(api.FourS, [3]int{}, 0, 4), 2023, 4, 13, 3, 4, 10, 13}, {cutBy(api.FourS, [3]int{}, 0, 4), 2023, 4, 6, 2, 1, 1, 6}, {cutBy(api.FourS, [3]int{}, 0, 4), 2023, 5, 17, 4, 4, 13, 17}, {cutBy(api.FourS, [3]int{}, 0, 4), 2024, 5, 17, 4, 5, 17, 20}, {cutBy(api.FourS, [3]int{}, 0, 4), 2023, 5, 25, 2, 1, 1, 25}, {cutBy(api.FourS, [3]int{}, 0, 4), 2024, 5, 25, 2, 2, 25, 52},
		{pay, 2023, 5, 27, 4, 26, 26, 27}, {pay, 2024, 5, 27, 4, 27, 27, 27}, {pay, 2023, 5, 27, 2, 1, 1, 27}, {pay, 2024, 5, 27, 2, 2, 27, 52}, {pay, 2023, 4, 52, 3, 4, 40, 52}, {pay, 2023, 4, 13, 3, 1, 1, 13},
		{broad(), 2023, 5, 5, 4, 1, 1, 5}, {broad(), 2024, 5, 5, 4, 2, 5, 8}, {gov(), 2024, 5, 25, 4, 5, 21, 25}, {gov(), 2023, 5, 25, 4, 6, 25, 29}, {gov(), 2024, 5, 60, 2, 2, 31, 60}, {gov(), 2023, 5, 59, 2, 2, 30, 59}, {gov(), 2024, 4, 12, 3, 4, 10, 12},
	} {
		unitOf := func(level, n int) api.Unit { return api.Unit{Level: level, Year: x.y, Index: n} }
		if v, e := unit.Up(x.c, unitOf(x.level, x.n), x.up); v != unitOf(x.up, x.in) || e != api.OK {
			t.Errorf("Up(%+v, %d of level %d of %d, %d): got %v, %d", x.c, x.n, x.level, x.y, x.up, v, e)
		}
		if a, b, e := unit.Down(x.c, unitOf(x.up, x.in), x.level); a != unitOf(x.level, x.first) || b != unitOf(x.level, x.last) || e != api.OK {
			t.Errorf("Down(%+v, %d of level %d of %d, %d): got %v, %v, %d", x.c, x.in, x.up, x.y, x.level, a, b, e)
		}
		if a, b, e := unit.Down(x.c, unitOf(x.level, x.n), x.up); a != (api.Unit{}) || b != (api.Unit{}) || e != api.ErrArg {
			t.Errorf("Down(%+v, %d of level %d of %d, %d): got %v, %v, %d", x.c, x.n, x.level, x.y, x.up, a, b, e)
		}
		if v, e := unit.Up(x.c, unitOf(x.up, x.in), x.level); v != (api.Unit{}) || e != api.ErrArg {
			t.Errorf("Up(%+v, %d of level %d of %d, %d): got %v, %d", x.c, x.in, x.up, x.y, x.level, v, e)
		}
	}
}

// TestErrors has levels, years, indexes and calendars that may not be, and more than one of these at once.
func TestErrors(t *testing.T) {
	check := func(s slow) {
		levels := append(probe.Far(3), 0, 1, 2, 3, 4, 5, 6, -1)
		years := append(probe.Far(2023), 1601, 1602, 2021, 2022, 2023, 2024, 9996, 9997, 0)
		for _, level := range levels {
			for _, y := range years {
				checkCount(t, s, level, y)
				l, _ := s.spans(level, y)
				for _, index := range append(probe.Far(1), -1, 0, 1, len(l), len(l)+1) {
					u := api.Unit{Level: level, Year: y, Index: index}
					checkUnit(t, s, u)
					for _, other := range levels {
						checkLevel(t, s, u, other)
					}
				}
			}
		}
	}
	for _, c := range probe.Serving(2022, 2023) {
		check(slowly(c, true))
	}
	for i, c := range probe.Wrong() {
		if i%5 == 0 || c.First == 2000 && c.Last == 2001 {
			check(slowly(c, false))
		}
	}
}

// TestWrongCalendars has each calendar that may not be, with all else right.
func TestWrongCalendars(t *testing.T) {
	for _, c := range probe.Wrong() {
		s := slowly(c, false)
		for level := 1; level <= 5; level++ {
			for _, y := range []int{1602, 2000, 9996} {
				checkCount(t, s, level, y)
				checkUnit(t, s, api.Unit{Level: level, Year: y, Index: 1})
				checkLevel(t, s, api.Unit{Level: level, Year: y, Index: 1}, level)
			}
		}
	}
}

// P16.4

// TestFollows goes through the units of each level of a year, which are its days, and none of which lies in more than one of each coarser level.
func TestFollows(t *testing.T) {
	for _, c := range probe.Serving(1996, 2026) {
		for y := c.First; y <= c.Last; y++ {
			whole, _ := unit.Span(c, api.Unit{Level: api.YearL, Year: y, Index: 1})
			for level := 1; level <= 5; level++ {
				ahead := whole.From - 1
				many, _ := unit.Count(c, level, y)
				for index := 1; index <= many; index++ {
					u := api.Unit{Level: level, Year: y, Index: index}
					s, e := unit.Span(c, u)
					if s.From != ahead+1 || s.To < s.From || e != api.OK {
						t.Fatalf("%+v, %v: got %v, %d behind %d", c, u, s, e, ahead)
					}
					ahead = s.To
					checkNested(t, c, u, s)
				}
				if ahead != whole.To {
					t.Fatalf("%+v, level %d of %d: got %d last, want %d", c, level, y, ahead, whole.To)
				}
			}
		}
	}
}

// checkNested holds a unit against those of coarser levels in which it lies, and what lies in it against its own first and last day.
func checkNested(t *testing.T, c api.Cal, u api.Unit, s api.Span) {
	t.Helper()
	for level := 1; level <= u.Level; level++ {
		above, _ := unit.Up(c, u, level)
		around, e := unit.Span(c, above)
		if around.From > s.From || around.To < s.To || e != api.OK {
			t.Fatalf("%+v, %v: got %v, %v, %d around %v", c, u, above, around, e, s)
		}
	}
	for level := u.Level; level <= 5; level++ {
		first, last, _ := unit.Down(c, u, level)
		a, e := unit.Span(c, first)
		b, f := unit.Span(c, last)
		if a.From != s.From || b.To != s.To || e != api.OK || f != api.OK {
			t.Fatalf("%+v, %v: got %v, %v, %d, %d within %v", c, u, a, b, e, f, s)
		}
	}
}
