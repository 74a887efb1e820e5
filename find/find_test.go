package find_test

import (
	"slices"
	"testing"

	"quarterday/api"
	"quarterday/find"
	"quarterday/probe"
	"quarterday/stamp"
	"quarterday/unit"
	"quarterday/year"
)

const lastDay = api.Days - 1

// slow has all units of a calendar that is cut day by day, and their days, by levels.
type slow struct {
	cal   api.Cal
	units [api.WeekL + 1][]api.Unit
	spans [api.WeekL + 1][]api.Span
}

func slowly(c api.Cal) slow {
	s := slow{cal: c}
	for y := c.First; y <= c.Last; y++ {
		for level, l := range probe.Units(c, y) {
			for i, x := range l {
				s.units[level] = append(s.units[level], api.Unit{Level: level, Year: y, Index: i + 1})
				s.spans[level] = append(s.spans[level], x)
			}
		}
	}
	return s
}

// bounds are the first and the last day that is served.
func (s slow) bounds() (from, to int) {
	l := s.spans[api.YearL]
	return l[0].From, l[len(l)-1].To
}

// checkDay holds what is told of a day against what should be.
func checkDay(t *testing.T, c api.Cal, day, level int, want api.Unit, wantE api.Errno) {
	t.Helper()
	if u, e := find.Day(c, day, level); u != want || e != wantE {
		t.Fatalf("Day(%+v, %d, %d): got %v, %d, want %v, %d", c, day, level, u, e, want, wantE)
	}
}

// checkBeside holds the units beside a unit against what should be.
func checkBeside(t *testing.T, c api.Cal, u, next, back api.Unit, nextE, backE api.Errno) {
	t.Helper()
	if v, e := find.Next(c, u); v != next || e != nextE {
		t.Fatalf("Next(%+v, %v): got %v, %d, want %v, %d", c, u, v, e, next, nextE)
	}
	if v, e := find.Back(c, u); v != back || e != backE {
		t.Fatalf("Back(%+v, %v): got %v, %d, want %v, %d", c, u, v, e, back, backE)
	}
}

// checkAll holds the units of years against what should be.
func checkAll(t *testing.T, c api.Cal, level, from, to int, want []api.Unit, wantE api.Errno) {
	t.Helper()
	if l, e := find.All(c, level, from, to); !slices.Equal(l, want) || e != wantE {
		t.Fatalf("All(%+v, %d, %d, %d): got %v, %d, want %v, %d", c, level, from, to, l, e, want, wantE)
	}
}

// checkMeets holds the units of a span against what should be.
func checkMeets(t *testing.T, c api.Cal, level, from, to int, want []api.Unit, wantE api.Errno) {
	t.Helper()
	if l, e := find.Meets(c, level, api.Span{From: from, To: to}); !slices.Equal(l, want) || e != wantE {
		t.Fatalf("Meets(%+v, %d, %d to %d): got %v, %d, want %v, %d", c, level, from, to, l, e, want, wantE)
	}
}

// dayOf reads a day.
func dayOf(t *testing.T, s string) int {
	t.Helper()
	day, e := stamp.Parse(s)
	if e != api.OK {
		t.Fatalf("%s: got %d", s, e)
	}
	return day
}

// The calendars of the tables, from 2000 to 2030: retailers, ISO weeks by pay cycles of two, months that end with September.
func nrf() api.Cal { return probe.Serving(2000, 2030)[2] }

func iso() api.Cal { return probe.Serving(2000, 2030)[4] }

func gov() api.Cal { return probe.Serving(2000, 2030)[5] }

func unitOf(level, y, n int) api.Unit { return api.Unit{Level: level, Year: y, Index: n} }

// noDays are days that the calendar does not have.
func noDays() []int { return append(probe.Far(154896), -1, -2, lastDay+1, lastDay+2) }

// noLevels are levels that are none.
func noLevels() []int { return append(probe.Far(5), 0, -1, 6, 7) }

// P17.1

func TestDay(t *testing.T) {
	for _, x := range []struct {
		c   api.Cal
		day string
		n   [api.WeekL + 1]int // the year, and which unit it is of each level that is finer
	}{
		{nrf(), "2024-02-03", [...]int{0, 2023, 2, 4, 12, 53}}, {nrf(), "2024-02-04", [...]int{0, 2024, 1, 1, 1, 1}}, {nrf(), "2024-01-28", [...]int{0, 2023, 2, 4, 12, 53}}, {nrf(), "2024-01-27", [...]int{0, 2023, 2, 4, 12, 52}}, {nrf(), "2023-07-29", [...]int{0, 2023, 1, 2, 6, 26}}, {nrf(), "2023-07-30", [...]int{0, 2023, 2, 3, 7, 27}}, {nrf(), "2023-04-29", [...]int{0, 2023, 1, 1, 3, 13}}, {nrf(), "2023-04-30", [...]int{0, 2023, 1, 2, 4, 14}},
		{iso(), "2021-01-03", [...]int{0, 2020, 2, 4, 26, 53}}, {iso(), "2021-01-04", [...]int{0, 2021, 1, 1, 1, 1}}, {iso(), "2020-03-22", [...]int{0, 2020, 1, 1, 6, 12}}, {iso(), "2020-03-23", [...]int{0, 2020, 1, 2, 7, 13}}, {iso(), "2020-12-14", [...]int{0, 2020, 2, 4, 26, 51}},
		{gov(), "2023-10-01", [...]int{0, 2024, 1, 1, 1, 1}}, {gov(), "2023-10-29", [...]int{0, 2024, 1, 1, 1, 5}}, {gov(), "2023-10-31", [...]int{0, 2024, 1, 1, 1, 5}}, {gov(), "2023-11-01", [...]int{0, 2024, 1, 1, 2, 6}}, {gov(), "2024-02-28", [...]int{0, 2024, 1, 2, 5, 24}}, {gov(), "2024-02-29", [...]int{0, 2024, 1, 2, 5, 25}}, {gov(), "2024-03-01", [...]int{0, 2024, 1, 2, 6, 26}}, {gov(), "2023-02-28", [...]int{0, 2023, 1, 2, 5, 24}}, {gov(), "2023-03-01", [...]int{0, 2023, 1, 2, 6, 25}}, {gov(), "2024-09-30", [...]int{0, 2024, 2, 4, 12, 60}}, {gov(), "2023-09-30", [...]int{0, 2023, 2, 4, 12, 59}},
	} {
		day := dayOf(t, x.day)
		checkDay(t, x.c, day, api.YearL, unitOf(api.YearL, x.n[1], 1), api.OK)
		for level := api.HalfL; level <= api.WeekL; level++ {
			checkDay(t, x.c, day, level, unitOf(level, x.n[1], x.n[level]), api.OK)
		}
	}
}

// TestEachDay has all days of some years, the days beside them, and years at the edges of what may be served.
func TestEachDay(t *testing.T) {
	for _, x := range [][2]int{{1602, 1603}, {2019, 2025}, {9996, 9996}} {
		for _, c := range probe.Serving(x[0], x[1]) {
			s := slowly(c)
			from, to := s.bounds()
			for level := 1; level <= 5; level++ {
				for i, x := range s.spans[level] {
					for day := x.From; day <= x.To; day++ {
						checkDay(t, c, day, level, s.units[level][i], api.OK)
					}
				}
				for _, day := range []int{from - 1, to + 1, from - 365, to + 365, 0, lastDay} {
					checkDay(t, c, day, level, api.Unit{}, api.ErrRange)
				}
			}
		}
	}
}

// TestEdgesOfEachCut has the first and the last day of each unit of a year of 53 weeks with each shape, and each period that may have one more.
func TestEdgesOfEachCut(t *testing.T) {
	probe.EachCut(api.Cal{Kind: api.LastR, Day: 6, Month: 9}, func(c api.Cal) {
		c = probe.Whole(c)
		c.First, c.Last = 2023, 2023
		s := slowly(c)
		for level := 1; level <= 5; level++ {
			for i, x := range s.spans[level] {
				checkDay(t, c, x.From, level, s.units[level][i], api.OK)
				checkDay(t, c, x.To, level, s.units[level][i], api.OK)
			}
		}
	})
}

func TestDayErrors(t *testing.T) {
	for _, c := range []api.Cal{nrf(), iso(), gov()} {
		days := append(noDays(), 0, 146000, 154896, lastDay)
		for _, level := range noLevels() {
			for _, day := range days {
				checkDay(t, c, day, level, api.Unit{}, api.ErrArg)
			}
		}
		for level := 1; level <= 5; level++ {
			for _, day := range noDays() {
				checkDay(t, c, day, level, api.Unit{}, api.ErrDate)
			}
		}
	}
	for _, c := range probe.Wrong() {
		for _, level := range append(noLevels(), 1, 5) {
			for _, day := range append(noDays(), 0, 146156, 146200, lastDay) {
				checkDay(t, c, day, level, api.Unit{}, api.ErrArg)
			}
		}
	}
}

// P17.2

func TestNextAndBack(t *testing.T) {
	short := nrf()
	short.First, short.Last = 2022, 2023
	none := api.Unit{}
	for _, x := range []struct {
		c             api.Cal
		u, next, back api.Unit
		e, f          api.Errno
	}{
		{short, unitOf(5, 2022, 52), unitOf(5, 2023, 1), unitOf(5, 2022, 51), api.OK, api.OK}, {short, unitOf(5, 2023, 1), unitOf(5, 2023, 2), unitOf(5, 2022, 52), api.OK, api.OK}, {short, unitOf(5, 2023, 52), unitOf(5, 2023, 53), unitOf(5, 2023, 51), api.OK, api.OK}, {short, unitOf(5, 2023, 53), none, unitOf(5, 2023, 52), api.ErrRange, api.OK}, {short, unitOf(5, 2022, 1), unitOf(5, 2022, 2), none, api.OK, api.ErrRange},
		{short, unitOf(4, 2022, 12), unitOf(4, 2023, 1), unitOf(4, 2022, 11), api.OK, api.OK}, {short, unitOf(3, 2023, 1), unitOf(3, 2023, 2), unitOf(3, 2022, 4), api.OK, api.OK}, {short, unitOf(2, 2022, 2), unitOf(2, 2023, 1), unitOf(2, 2022, 1), api.OK, api.OK}, {short, unitOf(1, 2022, 1), unitOf(1, 2023, 1), none, api.OK, api.ErrRange}, {short, unitOf(1, 2023, 1), none, unitOf(1, 2022, 1), api.ErrRange, api.OK},
		{nrf(), unitOf(5, 2023, 53), unitOf(5, 2024, 1), unitOf(5, 2023, 52), api.OK, api.OK}, {nrf(), unitOf(5, 2024, 1), unitOf(5, 2024, 2), unitOf(5, 2023, 53), api.OK, api.OK}, {iso(), unitOf(4, 2020, 26), unitOf(4, 2021, 1), unitOf(4, 2020, 25), api.OK, api.OK},
		{gov(), unitOf(5, 2023, 59), unitOf(5, 2024, 1), unitOf(5, 2023, 58), api.OK, api.OK}, {gov(), unitOf(5, 2025, 1), unitOf(5, 2025, 2), unitOf(5, 2024, 60), api.OK, api.OK}, {gov(), unitOf(5, 2024, 25), unitOf(5, 2024, 26), unitOf(5, 2024, 24), api.OK, api.OK},
		{nrf(), unitOf(5, 2022, 53), none, none, api.ErrNone, api.ErrNone}, {nrf(), unitOf(5, 2022, 0), none, none, api.ErrNone, api.ErrNone}, {gov(), unitOf(5, 2023, 60), none, none, api.ErrNone, api.ErrNone},
	} {
		checkBeside(t, x.c, x.u, x.next, x.back, x.e, x.f)
	}
}

// TestEachNextAndBack goes through all units of some years, from the first to the last one and back.
func TestEachNextAndBack(t *testing.T) {
	for _, x := range [][2]int{{1602, 1602}, {2003, 2025}, {9994, 9996}} {
		for _, c := range probe.Serving(x[0], x[1]) {
			s := slowly(c)
			for _, l := range s.units[1:] {
				for i, u := range l {
					next, back, nextE, backE := api.Unit{}, api.Unit{}, api.ErrRange, api.ErrRange
					if i > 0 {
						back, backE = l[i-1], api.OK
					}
					if i < len(l)-1 {
						next, nextE = l[i+1], api.OK
					}
					checkBeside(t, c, u, next, back, nextE, backE)
				}
			}
		}
	}
}

// TestUnitsThatAreNone has levels, years and indexes that may not be, and more than one of these at once, also of calendars that may not be.
func TestUnitsThatAreNone(t *testing.T) {
	for _, c := range append(probe.Serving(2022, 2023), probe.Wrong()...) {
		for _, level := range append(noLevels(), 1, 3, 5) {
			for _, y := range append(probe.Far(2022), 2021, 2022, 2023, 2024) {
				for _, n := range append(probe.Far(1), -1, 0, 1, 61) {
					u := unitOf(level, y, n)
					if e := unit.Check(c, u); e != api.OK {
						checkBeside(t, c, u, api.Unit{}, api.Unit{}, e, e)
					}
				}
			}
		}
	}
}

// P17.3

// TestAll has all pairs of years that are served, and of those beside them.
func TestAll(t *testing.T) {
	for _, x := range [][2]int{{2020, 2024}, {2023, 2023}, {1602, 1604}, {9994, 9996}} {
		for _, c := range probe.Serving(x[0], x[1]) {
			s := slowly(c)
			for level := 1; level <= 5; level++ {
				for from := c.First - 1; from <= c.Last+1; from++ {
					for to := c.First - 1; to <= c.Last+1; to++ {
						if from < c.First || to > c.Last || from > to {
							checkAll(t, c, level, from, to, nil, api.ErrRange)
							continue
						}
						var want []api.Unit
						for _, u := range s.units[level] {
							if u.Year >= from && u.Year <= to {
								want = append(want, u)
							}
						}
						checkAll(t, c, level, from, to, want, api.OK)
					}
				}
			}
		}
	}
}

// TestAllOfManyYears has as many years as may be served.
func TestAllOfManyYears(t *testing.T) {
	for _, c := range probe.Serving(1800, 2199) {
		s := slowly(c)
		for level := 1; level <= 5; level++ {
			checkAll(t, c, level, 1800, 2199, s.units[level], api.OK)
		}
	}
}

func TestAllErrors(t *testing.T) {
	c := nrf()
	for _, x := range append(probe.Far(2020), 1999, 2031, 0, -2020) {
		checkAll(t, c, 5, x, 2020, nil, api.ErrRange)
		checkAll(t, c, 5, 2020, x, nil, api.ErrRange)
		checkAll(t, c, 5, x, x, nil, api.ErrRange)
		checkAll(t, c, 6, x, x, nil, api.ErrArg)
		checkAll(t, c, 0, 2020, x, nil, api.ErrArg)
	}
	checkAll(t, c, 1, 2021, 2020, nil, api.ErrRange)
	checkAll(t, c, 1, 2030, 2000, nil, api.ErrRange)
	checkAll(t, c, 1, 2031, 1999, nil, api.ErrRange)
	for _, level := range noLevels() {
		checkAll(t, c, level, 2020, 2020, nil, api.ErrArg)
		checkAll(t, c, level, 2021, 2020, nil, api.ErrArg)
	}
	for _, c := range probe.Wrong() {
		for _, level := range []int{0, 1, 5, 6} {
			checkAll(t, c, level, 2000, 2000, nil, api.ErrArg)
			checkAll(t, c, level, 2000, 1999, nil, api.ErrArg)
		}
	}
}

// P17.4

// edges are days at which units begin and end, the days beside them, those at the ends of years, and some others.
func (s slow) edges() []int {
	from, to := s.bounds()
	l := []int{from + 1, from + 100, to - 1}
	for _, x := range s.spans[api.YearL] {
		l = append(l, x.From, x.To)
	}
	step := len(s.spans[api.PeriodL])/7 + 1
	for i, x := range s.spans[api.PeriodL] {
		if i%step == 0 {
			l = append(l, x.From, x.To, x.To-1, x.From+3, min(x.From+10, to))
		}
	}
	return l
}

// TestMeets has spans from each edge to each other one: of one day, of one unit, within years and across them.
func TestMeets(t *testing.T) {
	for _, x := range [][2]int{{2022, 2024}, {2020, 2020}, {1602, 1603}, {9995, 9996}} {
		for _, c := range probe.Serving(x[0], x[1]) {
			s := slowly(c)
			for level := 1; level <= 5; level++ {
				for _, from := range s.edges() {
					for _, to := range s.edges() {
						if from > to {
							checkMeets(t, c, level, from, to, nil, api.ErrArg)
							continue
						}
						i := slices.IndexFunc(s.spans[level], func(x api.Span) bool { return x.To >= from })
						k := slices.IndexFunc(s.spans[level], func(x api.Span) bool { return x.To >= to })
						checkMeets(t, c, level, from, to, s.units[level][i:k+1], api.OK)
					}
				}
			}
		}
	}
}

// TestMeetsEachUnit has the span of each unit, and that with one day more on each side.
func TestMeetsEachUnit(t *testing.T) {
	for _, c := range probe.Serving(2019, 2025) {
		s := slowly(c)
		for level := 1; level <= 5; level++ {
			l := s.units[level]
			for i, x := range s.spans[level] {
				checkMeets(t, c, level, x.From, x.To, l[i:i+1], api.OK)
				checkMeets(t, c, level, x.From, x.From, l[i:i+1], api.OK)
				checkMeets(t, c, level, x.To, x.To, l[i:i+1], api.OK)
				if i > 0 && i < len(l)-1 {
					checkMeets(t, c, level, x.From-1, x.To+1, l[i-1:i+2], api.OK)
				}
			}
		}
	}
}

func TestMeetsManyYears(t *testing.T) {
	for _, c := range probe.Serving(1800, 2199) {
		s := slowly(c)
		from, to := s.bounds()
		for level := 1; level <= 5; level++ {
			checkMeets(t, c, level, from, to, s.units[level], api.OK)
			checkMeets(t, c, level, from-1, to, nil, api.ErrRange)
			checkMeets(t, c, level, from, to+1, nil, api.ErrRange)
		}
	}
}

// TestMeetsErrors has spans of which one day or both are wrong, each in its own way.
func TestMeetsErrors(t *testing.T) {
	for _, c := range probe.Serving(2022, 2023) {
		from, to := slowly(c).bounds()
		for _, x := range []struct {
			from, to int
			e        api.Errno
		}{
			{from - 1, from, api.ErrRange}, {to, to + 1, api.ErrRange}, {from - 2, from - 1, api.ErrRange}, {to + 1, to + 2, api.ErrRange}, {from - 1, to + 1, api.ErrRange}, {0, lastDay, api.ErrRange},
			{-1, from, api.ErrDate}, {-1, -1, api.ErrDate}, {-1, to + 1, api.ErrDate}, {-1, lastDay + 1, api.ErrDate}, {-1 << 63, 1<<63 - 1, api.ErrDate}, {from, lastDay + 1, api.ErrDate}, {to, 1<<63 - 1, api.ErrDate}, {from, from + 1<<32, api.ErrDate}, {from - 1<<32, from, api.ErrDate},
			{from - 1, lastDay + 1, api.ErrRange}, {to + 1, lastDay + 1, api.ErrRange}, {0, 1<<63 - 1, api.ErrRange},
			{from + 1, from, api.ErrArg}, {to + 1, to, api.ErrArg}, {to + 2, from - 2, api.ErrArg}, {0, -1, api.ErrArg}, {lastDay + 1, -1, api.ErrArg}, {1<<63 - 1, -1 << 63, api.ErrArg}, {lastDay + 2, lastDay + 1, api.ErrArg}, {from, from - 1<<32, api.ErrArg},
		} {
			for level := 1; level <= 5; level++ {
				checkMeets(t, c, level, x.from, x.to, nil, x.e)
			}
			for _, level := range noLevels() {
				checkMeets(t, c, level, x.from, x.to, nil, api.ErrArg)
			}
		}
		for _, level := range noLevels() {
			checkMeets(t, c, level, from, to, nil, api.ErrArg)
		}
	}
	for _, c := range probe.Wrong() {
		for _, level := range []int{0, 1, 5, 6} {
			for _, x := range [][2]int{{146156, 146200}, {146200, 146156}, {-1, 146156}, {146156, lastDay + 1}, {0, lastDay}} {
				checkMeets(t, c, level, x[0], x[1], nil, api.ErrArg)
			}
		}
	}
}

// P17.5

// TestFollows goes from the first unit to the last one: each begins behind the one ahead, and each of its days lies in it.
func TestFollows(t *testing.T) {
	for _, c := range probe.Serving(2010, 2026) {
		bounds, _ := year.Bounds(c)
		for level := 1; level <= 5; level++ {
			u, e := find.Day(c, bounds.From, level)
			day := bounds.From
			for e == api.OK {
				s, f := unit.Span(c, u)
				if s.From != day || f != api.OK {
					t.Fatalf("%+v, %v: got %v, %d, want from %d", c, u, s, f, day)
				}
				for ; day <= s.To; day++ {
					checkDay(t, c, day, level, u, api.OK)
				}
				u, e = find.Next(c, u)
			}
			if e != api.ErrRange || day != bounds.To+1 {
				t.Fatalf("%+v, level %d: got %d at %d", c, level, e, day)
			}
		}
	}
}

// TestAnswersAreNew writes into what was told, and behind it.
func TestAnswersAreNew(t *testing.T) {
	for _, c := range probe.Serving(2022, 2024) {
		s := slowly(c)
		from, to := s.bounds()
		for level := 1; level <= 5; level++ {
			l, _ := find.All(c, level, 2022, 2024)
			m, _ := find.Meets(c, level, api.Span{From: from, To: to})
			kept, _ := find.All(c, level, 2022, 2024)
			for i := range l {
				l[i].Index = -1
			}
			_ = append(l, unitOf(9, 9, 9))
			if !slices.Equal(m, s.units[level]) || !slices.Equal(kept, s.units[level]) {
				t.Fatalf("got %v, %v", m, kept)
			}
			for i := range m {
				m[i].Year = -1
			}
			checkAll(t, c, level, 2022, 2024, s.units[level], api.OK)
			checkMeets(t, c, level, from, to, s.units[level], api.OK)
		}
	}
}
