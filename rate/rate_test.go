package rate_test

import (
	"math/big"
	"slices"
	"testing"

	"quarterday/api"
	"quarterday/find"
	"quarterday/probe"
	"quarterday/rate"
	"quarterday/share"
	"quarterday/stamp"
)

const (
	lastDay = api.Days - 1
	least   = -1 << 63
	most    = 1<<63 - 1
)

// amounts are those at which 64 bits are just enough, and others of both signs.
var amounts = []int64{0, 1, -1, most, least, 10, -10, 7, -3, 1000003, -1 << 62, 100, least + 1, 1 << 40, -99999, 2}

func unitOf(level, y, n int) api.Unit { return api.Unit{Level: level, Year: y, Index: n} }

// unitsFrom are units of one level, of one year.
func unitsFrom(level, y, n, many int) []api.Unit {
	var l []api.Unit
	for i := range many {
		l = append(l, unitOf(level, y, n+i))
	}
	return l
}

// spanOf reads the days of a span.
func spanOf(t *testing.T, from, to string) api.Span {
	t.Helper()
	a, e := stamp.Parse(from)
	b, f := stamp.Parse(to)
	if e != api.OK || f != api.OK {
		t.Fatalf("%s, %s: got %d, %d", from, to, e, f)
	}
	return api.Span{From: a, To: b}
}

// The calendars of the tables, from 2000 to 2030: retailers, broadcasters, ISO weeks by pay cycles of two, months that end with September.
func nrf() api.Cal { return probe.Serving(2000, 2030)[2] }

func broad() api.Cal { return probe.Serving(2000, 2030)[3] }

func iso() api.Cal { return probe.Serving(2000, 2030)[4] }

func gov() api.Cal { return probe.Serving(2000, 2030)[5] }

// checkDays holds the days of a span against what should be.
func checkDays(t *testing.T, c api.Cal, level int, s api.Span, want []int64, wantE api.Errno) {
	t.Helper()
	if l, e := rate.Days(c, level, s); !slices.Equal(l, want) || e != wantE {
		t.Fatalf("Days(%+v, %d, %v): got %v, %d, want %v, %d", c, level, s, l, e, want, wantE)
	}
}

// checkSplit holds the parts of a span's amount against what should be.
func checkSplit(t *testing.T, c api.Cal, level int, a int64, s api.Span, units []api.Unit, parts []int64, wantE api.Errno) {
	t.Helper()
	l, e := rate.Split(c, level, a, s)
	same := e == wantE && len(l) == len(parts)
	for i := 0; same && i < len(l); i++ {
		same = l[i] == api.Share{Unit: units[i], N: parts[i]}
	}
	if !same {
		t.Fatalf("Split(%+v, %d, %d, %v): got %v, %d, want %v of %v, %d", c, level, a, s, l, e, parts, units, wantE)
	}
}

// checkExact holds the exact shares of a span's amount against what should be.
func checkExact(t *testing.T, c api.Cal, level int, a int64, s api.Span, want []api.Ratio, wantE api.Errno) {
	t.Helper()
	if l, e := rate.Exact(c, level, a, s); !slices.Equal(l, want) || e != wantE {
		t.Fatalf("Exact(%+v, %d, %d, %v): got %v, %d, want %v, %d", c, level, a, s, l, e, want, wantE)
	}
}

// checkSlowly holds all that is told of a span that is served against days that are counted one by one.
func checkSlowly(t *testing.T, slow probe.Slow, level int, a int64, s api.Span) {
	t.Helper()
	units, days := slow.Met(level, s)
	checkDays(t, slow.Cal, level, s, days, api.OK)
	parts, e := share.Split(a, days)
	checkSplit(t, slow.Cal, level, a, s, units, parts, e)
	shares, e := share.Exact(a, days)
	checkExact(t, slow.Cal, level, a, s, shares, e)
}

// checkRefused holds all calls against one error.
func checkRefused(t *testing.T, c api.Cal, level int, s api.Span, want api.Errno) {
	t.Helper()
	checkDays(t, c, level, s, nil, want)
	for _, a := range amounts[:5] {
		checkSplit(t, c, level, a, s, nil, nil, want)
		checkExact(t, c, level, a, s, nil, want)
	}
}

// P21.1, P21.2

func TestDaysAndSplit(t *testing.T) {
	join := slices.Concat[[]api.Unit]
	for _, x := range []struct {
		c        api.Cal
		level    int
		a        int64
		from, to string
		units    []api.Unit
		days     []int64
		parts    []int64
	}{
		{nrf(), 5, 10, "2023-02-03", "2023-02-05", unitsFrom(5, 2023, 1, 2), []int64{2, 1}, []int64{7, 3}}, {nrf(), 5, -10, "2023-02-03", "2023-02-05", unitsFrom(5, 2023, 1, 2), []int64{2, 1}, []int64{-7, -3}}, {nrf(), 5, 100, "2023-01-27", "2023-02-05", join(unitsFrom(5, 2022, 52, 1), unitsFrom(5, 2023, 1, 2)), []int64{2, 7, 1}, []int64{20, 70, 10}}, {nrf(), 5, 7, "2024-02-03", "2024-02-03", unitsFrom(5, 2023, 53, 1), []int64{1}, []int64{7}}, {nrf(), 5, 9, "2024-01-27", "2024-02-04", join(unitsFrom(5, 2023, 52, 2), unitsFrom(5, 2024, 1, 1)), []int64{1, 7, 1}, []int64{1, 7, 1}}, {nrf(), 5, -8, "2024-01-28", "2024-02-03", unitsFrom(5, 2023, 53, 1), []int64{7}, []int64{-8}},
		{nrf(), 4, 100, "2023-01-27", "2023-02-05", join(unitsFrom(4, 2022, 12, 1), unitsFrom(4, 2023, 1, 1)), []int64{2, 8}, []int64{20, 80}}, {nrf(), 4, 35, "2023-12-31", "2024-02-03", unitsFrom(4, 2023, 12, 1), []int64{35}, []int64{35}}, {nrf(), 4, 91, "2023-10-29", "2024-01-27", unitsFrom(4, 2023, 10, 3), []int64{28, 35, 28}, []int64{28, 35, 28}}, {nrf(), 4, 100, "2023-10-29", "2024-02-03", unitsFrom(4, 2023, 10, 3), []int64{28, 35, 35}, []int64{28, 36, 36}},
		{nrf(), 3, 100, "2023-04-20", "2023-05-05", unitsFrom(3, 2023, 1, 2), []int64{10, 6}, []int64{63, 37}}, {nrf(), 3, -100, "2023-04-20", "2023-05-05", unitsFrom(3, 2023, 1, 2), []int64{10, 6}, []int64{-62, -38}}, {nrf(), 2, 5, "2023-07-29", "2023-07-30", unitsFrom(2, 2023, 1, 2), []int64{1, 1}, []int64{3, 2}}, {nrf(), 2, -5, "2023-07-29", "2023-07-30", unitsFrom(2, 2023, 1, 2), []int64{1, 1}, []int64{-2, -3}}, {nrf(), 2, 12, "2023-07-29", "2024-02-04", join(unitsFrom(2, 2023, 1, 2), unitsFrom(2, 2024, 1, 1)), []int64{1, 189, 1}, []int64{0, 12, 0}},
		{nrf(), 1, 1000, "2022-01-30", "2024-02-03", []api.Unit{unitOf(1, 2022, 1), unitOf(1, 2023, 1)}, []int64{364, 371}, []int64{495, 505}}, {nrf(), 1, 1099, "2022-01-30", "2025-02-01", []api.Unit{unitOf(1, 2022, 1), unitOf(1, 2023, 1), unitOf(1, 2024, 1)}, []int64{364, 371, 364}, []int64{364, 371, 364}}, {nrf(), 1, 2, "2023-01-28", "2024-02-04", []api.Unit{unitOf(1, 2022, 1), unitOf(1, 2023, 1), unitOf(1, 2024, 1)}, []int64{1, 371, 1}, []int64{0, 2, 0}}, {nrf(), 1, most, "2023-05-05", "2023-05-05", unitsFrom(1, 2023, 1, 1), []int64{1}, []int64{most}},
		{broad(), 5, 10, "2023-12-24", "2024-01-01", join(unitsFrom(5, 2023, 52, 2), unitsFrom(5, 2024, 1, 1)), []int64{1, 7, 1}, []int64{1, 8, 1}}, {broad(), 4, 10, "2023-12-24", "2024-01-01", join(unitsFrom(4, 2023, 12, 1), unitsFrom(4, 2024, 1, 1)), []int64{8, 1}, []int64{9, 1}}, {broad(), 4, 63, "2023-03-27", "2023-05-28", unitsFrom(4, 2023, 4, 2), []int64{35, 28}, []int64{35, 28}}, {broad(), 1, -372, "2022-12-25", "2023-12-31", join(unitsFrom(1, 2022, 1, 1), unitsFrom(1, 2023, 1, 1)), []int64{1, 371}, []int64{-1, -371}},
		{iso(), 5, 10, "2020-12-27", "2021-01-04", join(unitsFrom(5, 2020, 52, 2), unitsFrom(5, 2021, 1, 1)), []int64{1, 7, 1}, []int64{1, 8, 1}}, {iso(), 4, 3, "2020-03-22", "2020-03-23", unitsFrom(4, 2020, 6, 2), []int64{1, 1}, []int64{2, 1}}, {iso(), 4, 35, "2020-11-30", "2021-01-03", unitsFrom(4, 2020, 25, 2), []int64{14, 21}, []int64{14, 21}}, {iso(), 2, 4, "2021-01-02", "2021-01-05", join(unitsFrom(2, 2020, 2, 1), unitsFrom(2, 2021, 1, 1)), []int64{2, 2}, []int64{2, 2}},
		{gov(), 5, 31, "2024-01-31", "2024-03-01", unitsFrom(5, 2024, 20, 7), []int64{1, 7, 7, 7, 7, 1, 1}, []int64{1, 7, 7, 7, 7, 1, 1}}, {gov(), 5, 10, "2024-01-31", "2024-03-01", unitsFrom(5, 2024, 20, 7), []int64{1, 7, 7, 7, 7, 1, 1}, []int64{1, 2, 2, 2, 2, 1, 0}}, {gov(), 5, 4, "2024-09-29", "2024-10-02", join(unitsFrom(5, 2024, 60, 1), unitsFrom(5, 2025, 1, 1)), []int64{2, 2}, []int64{2, 2}}, {gov(), 5, 30, "2023-01-30", "2023-02-28", unitsFrom(5, 2023, 20, 5), []int64{2, 7, 7, 7, 7}, []int64{2, 7, 7, 7, 7}},
		{gov(), 4, 90, "2024-01-31", "2024-03-01", unitsFrom(4, 2024, 4, 3), []int64{1, 29, 1}, []int64{3, 84, 3}}, {gov(), 4, 90, "2023-01-31", "2023-03-01", unitsFrom(4, 2023, 4, 3), []int64{1, 28, 1}, []int64{3, 84, 3}}, {gov(), 3, 7, "2023-12-31", "2024-01-01", unitsFrom(3, 2024, 1, 2), []int64{1, 1}, []int64{4, 3}}, {gov(), 2, 366, "2023-10-01", "2024-09-30", unitsFrom(2, 2024, 1, 2), []int64{183, 183}, []int64{183, 183}}, {gov(), 1, 731, "2022-10-01", "2024-09-30", join(unitsFrom(1, 2023, 1, 1), unitsFrom(1, 2024, 1, 1)), []int64{365, 366}, []int64{365, 366}},
	} {
		probe.EachPolicy(x.c, func(c api.Cal) {
			s := spanOf(t, x.from, x.to)
			checkDays(t, c, x.level, s, x.days, api.OK)
			checkSplit(t, c, x.level, x.a, s, x.units, x.parts, api.OK)
		})
	}
}

// TestAmounts has amounts at the edges, and ties.
func TestAmounts(t *testing.T) {
	two, three := spanOf(t, "2023-02-04", "2023-02-05"), spanOf(t, "2023-01-29", "2023-02-18")
	for _, x := range []struct {
		s     api.Span
		a     int64
		parts []int64
	}{
		{two, 0, []int64{0, 0}}, {two, 1, []int64{1, 0}}, {two, -1, []int64{0, -1}}, {two, 3, []int64{2, 1}}, {two, -3, []int64{-1, -2}}, {two, most, []int64{1 << 62, 1<<62 - 1}}, {two, least, []int64{-1 << 62, -1 << 62}}, {two, least + 1, []int64{1 - 1<<62, -1 << 62}},
		{three, 0, []int64{0, 0, 0}}, {three, 1, []int64{1, 0, 0}}, {three, -1, []int64{0, 0, -1}}, {three, 2, []int64{1, 1, 0}}, {three, -2, []int64{0, -1, -1}}, {three, 10, []int64{4, 3, 3}}, {three, -10, []int64{-3, -3, -4}}, {three, most, []int64{3074457345618258603, 3074457345618258602, 3074457345618258602}}, {three, least, []int64{-3074457345618258602, -3074457345618258603, -3074457345618258603}},
	} {
		checkSplit(t, nrf(), api.WeekL, x.a, x.s, unitsFrom(5, 2023, 1, len(x.parts)), x.parts, api.OK)
	}
}

func TestExact(t *testing.T) {
	for _, x := range []struct {
		c        api.Cal
		level    int
		a        int64
		from, to string
		want     []api.Ratio
		e        api.Errno
	}{
		{nrf(), 5, 10, "2023-02-03", "2023-02-05", []api.Ratio{{N: 20, D: 3}, {N: 10, D: 3}}, api.OK}, {nrf(), 5, -10, "2023-02-03", "2023-02-05", []api.Ratio{{N: -20, D: 3}, {N: -10, D: 3}}, api.OK}, {nrf(), 5, 0, "2023-02-03", "2023-02-05", []api.Ratio{{N: 0, D: 1}, {N: 0, D: 1}}, api.OK}, {nrf(), 5, 1, "2023-02-03", "2023-02-05", []api.Ratio{{N: 2, D: 3}, {N: 1, D: 3}}, api.OK}, {nrf(), 5, 9, "2023-02-03", "2023-02-05", []api.Ratio{{N: 6, D: 1}, {N: 3, D: 1}}, api.OK},
		{nrf(), 1, 1000, "2022-01-30", "2024-02-03", []api.Ratio{{N: 10400, D: 21}, {N: 10600, D: 21}}, api.OK}, {gov(), 4, 90, "2024-01-31", "2024-03-01", []api.Ratio{{N: 90, D: 31}, {N: 2610, D: 31}, {N: 90, D: 31}}, api.OK}, {iso(), 4, -1, "2020-11-30", "2021-01-03", []api.Ratio{{N: -2, D: 5}, {N: -3, D: 5}}, api.OK}, {broad(), 4, 5, "2023-12-24", "2024-01-01", []api.Ratio{{N: 40, D: 9}, {N: 5, D: 9}}, api.OK},
		{nrf(), 5, most, "2024-02-03", "2024-02-03", []api.Ratio{{N: most, D: 1}}, api.OK}, {nrf(), 5, least, "2024-02-03", "2024-02-03", []api.Ratio{{N: least, D: 1}}, api.OK}, {nrf(), 5, most, "2023-02-04", "2023-02-05", []api.Ratio{{N: most, D: 2}, {N: most, D: 2}}, api.OK}, {nrf(), 5, least, "2023-02-04", "2023-02-05", []api.Ratio{{N: -1 << 62, D: 1}, {N: -1 << 62, D: 1}}, api.OK},
		{nrf(), 5, most, "2023-02-03", "2023-02-05", nil, api.ErrOver}, {nrf(), 5, least, "2023-02-03", "2023-02-05", nil, api.ErrOver}, {nrf(), 5, 1<<62 - 1, "2023-02-03", "2023-02-05", []api.Ratio{{N: (1<<62 - 1) / 3 * 2, D: 1}, {N: (1<<62 - 1) / 3, D: 1}}, api.OK}, {nrf(), 5, 1<<62 - 2, "2023-02-03", "2023-02-05", []api.Ratio{{N: 1<<63 - 4, D: 3}, {N: 1<<62 - 2, D: 3}}, api.OK}, {nrf(), 5, 1 << 62, "2023-02-03", "2023-02-05", nil, api.ErrOver}, {nrf(), 5, -1 << 62, "2023-02-03", "2023-02-05", []api.Ratio{{N: least, D: 3}, {N: -1 << 62, D: 3}}, api.OK}, {nrf(), 5, -1<<62 - 1, "2023-02-03", "2023-02-05", nil, api.ErrOver},
	} {
		checkExact(t, x.c, x.level, x.a, spanOf(t, x.from, x.to), x.want, x.e)
	}
}

// edges are days at which units begin and end, the days beside them, those at the ends of years, and some others.
func edges(s probe.Slow) []int {
	bounds := s.Bounds()
	l := []int{bounds.From + 1, bounds.From + 100, bounds.To - 1}
	for y := s.Cal.First; y <= s.Cal.Last; y++ {
		l = append(l, s.Years[y].Days().From, s.Years[y].Days().To)
		periods := s.Years[y].Units[api.PeriodL]
		for i := 0; i < len(periods); i += 1 + len(periods)/2 {
			x := periods[i]
			l = append(l, x.From, x.To, x.To-1, x.From+3, min(x.From+10, bounds.To))
		}
	}
	return l
}

// TestEachSpan has spans from each edge to each other one: of one day, of one unit, within years and across them.
func TestEachSpan(t *testing.T) {
	turn := 0
	for _, x := range [][2]int{{2022, 2023}, {2020, 2020}, {1602, 1602}, {9995, 9996}} {
		for _, c := range probe.Serving(x[0], x[1]) {
			s := probe.Slowly(c)
			for level := 1; level <= 5; level++ {
				for _, from := range edges(s) {
					for _, to := range edges(s) {
						if from > to {
							continue
						}
						checkSlowly(t, s, level, amounts[turn%len(amounts)], api.Span{From: from, To: to})
						turn++
					}
				}
			}
		}
	}
}

// TestEachUnit has the span of each unit, its first and its last day, that with one day more on each side, and with one less.
func TestEachUnit(t *testing.T) {
	turn := 0
	for _, c := range probe.Serving(2019, 2024) {
		s := probe.Slowly(c)
		bounds := s.Bounds()
		for y := 2019; y <= 2024; y++ {
			for level := 1; level <= 5; level++ {
				for _, x := range s.Years[y].Units[level] {
					for _, x := range []api.Span{x, {From: x.From, To: x.From}, {From: x.To, To: x.To}, {From: max(x.From-1, bounds.From), To: min(x.To+1, bounds.To)}, {From: min(x.From+1, x.To), To: max(x.To-1, min(x.From+1, x.To))}} {
						checkSlowly(t, s, level, amounts[turn%len(amounts)], x)
						turn++
					}
				}
			}
		}
	}
}

// TestEachCut has spans over the end of a year of 53 weeks with each shape, and each period that may have one more.
func TestEachCut(t *testing.T) {
	probe.EachCut(api.Cal{Kind: api.LastR, Day: 6, Month: 9}, func(c api.Cal) {
		c = probe.Whole(c)
		c.First, c.Last = 2022, 2024
		s := probe.Slowly(c)
		year := s.Years[2023].Days()
		for level := 1; level <= 5; level++ {
			for _, x := range []api.Span{s.Bounds(), year, {From: year.From + 3, To: year.To - 3}, {From: year.From - 1, To: year.From}, {From: year.To - 30, To: year.To + 30}} {
				checkSlowly(t, s, level, 1000, x)
				checkSlowly(t, s, level, -999, x)
			}
		}
	})
}

// TestEachRule has spans over years of each rule.
func TestEachRule(t *testing.T) {
	probe.EachCal(func(c api.Cal) {
		c.First, c.Last = 2021, 2024
		s := probe.Slowly(c)
		bounds := s.Bounds()
		for level := 1; level <= 5; level++ {
			checkSlowly(t, s, level, 12345, bounds)
			checkSlowly(t, s, level, -12345, api.Span{From: bounds.From + 200, To: bounds.To - 200})
		}
	})
}

// TestManyYears has as many years as may be served: the days of each unit are told, but an amount is cut into at most 4096 parts.
func TestManyYears(t *testing.T) {
	for _, x := range [][2]int{{1602, 2001}, {9597, 9996}} {
		for _, c := range probe.Serving(x[0], x[1]) {
			s := probe.Slowly(c)
			for level := 1; level <= 5; level++ {
				units, days := s.Met(level, s.Bounds())
				checkSlowly(t, s, level, 1<<40+7, s.Bounds())
				if _, e := rate.Split(c, level, 1, s.Bounds()); (e == api.ErrLong) != (len(units) > 4096) || len(days) != len(units) {
					t.Fatalf("%+v, level %d: got %d of %d units", c, level, e, len(units))
				}
			}
		}
	}
}

// TestParts has just as many parts as there may be, and one more.
func TestParts(t *testing.T) {
	for _, c := range probe.Serving(1900, 2299) {
		s := probe.Slowly(c)
		bounds := s.Bounds()
		for level := api.PeriodL; level <= api.WeekL; level++ {
			units, _ := s.Met(level, bounds)
			for _, first := range []int{0, 5, 701} {
				if first+4097 > len(units) {
					t.Fatalf("%+v, level %d: got %d units", c, level, len(units))
				}
				x := api.Span{From: s.Span(units[first]).To, To: s.Span(units[first+4095]).From}
				checkSlowly(t, s, level, least, x)
				if l, e := rate.Split(c, level, 5, x); len(l) != 4096 || e != api.OK {
					t.Fatalf("%+v, level %d, %v: got %d, %d", c, level, x, len(l), e)
				}
				x.To = s.Span(units[first+4096]).From
				checkSlowly(t, s, level, least, x)
				checkSplit(t, c, level, 5, x, nil, nil, api.ErrLong)
				checkExact(t, c, level, most, x, nil, api.ErrLong)
			}
		}
	}
}

// noLevels are levels that are none.
func noLevels() []int { return append(probe.Far(5), 0, -1, 6, 7) }

// TestErrors has levels and spans that may not be, and more than one thing wrong at once.
func TestErrors(t *testing.T) {
	for _, c := range probe.Serving(1800, 2100) {
		bounds := probe.Slowly(c).Bounds()
		from, to := bounds.From, bounds.To
		for _, x := range []struct {
			from, to int
			e        api.Errno
		}{
			{from - 1, from, api.ErrRange}, {to, to + 1, api.ErrRange}, {from - 2, from - 1, api.ErrRange}, {to + 1, to + 2, api.ErrRange}, {from - 1, to + 1, api.ErrRange}, {0, lastDay, api.ErrRange}, {0, 0, api.ErrRange}, {lastDay, lastDay, api.ErrRange}, {from - 1, to, api.ErrRange}, {from, to + 1, api.ErrRange},
			{-1, from, api.ErrDate}, {-1, -1, api.ErrDate}, {-1, to + 1, api.ErrDate}, {-1, lastDay + 1, api.ErrDate}, {least, most, api.ErrDate}, {from, lastDay + 1, api.ErrDate}, {to, most, api.ErrDate}, {from, from + 1<<32, api.ErrDate}, {from - 1<<32, from, api.ErrDate}, {lastDay + 1, lastDay + 2, api.ErrDate},
			{from - 1, lastDay + 1, api.ErrRange}, {to + 1, lastDay + 1, api.ErrRange}, {0, most, api.ErrRange},
			{from + 1, from, api.ErrArg}, {to + 1, to, api.ErrArg}, {to + 2, from - 2, api.ErrArg}, {0, -1, api.ErrArg}, {lastDay + 1, -1, api.ErrArg}, {most, least, api.ErrArg}, {lastDay + 2, lastDay + 1, api.ErrArg}, {from, from - 1<<32, api.ErrArg},
		} {
			s := api.Span{From: x.from, To: x.to}
			for level := 1; level <= 5; level++ {
				checkRefused(t, c, level, s, x.e)
			}
			for _, level := range noLevels() {
				checkRefused(t, c, level, s, api.ErrArg)
			}
		}
		for _, level := range noLevels() {
			checkRefused(t, c, level, bounds, api.ErrArg)
		}
	}
}

// TestWrongCalendars has calendars that may not be, with levels and spans that may be or not.
func TestWrongCalendars(t *testing.T) {
	for _, c := range probe.Wrong() {
		for _, level := range []int{0, 1, 5, 6} {
			for _, x := range []api.Span{{From: 146156, To: 146200}, {From: 146200, To: 146156}, {From: -1, To: 146156}, {From: 146156, To: lastDay + 1}, {From: 0, To: lastDay}} {
				checkRefused(t, c, level, x, api.ErrArg)
			}
		}
	}
}

// TestHandsOn has the errors of find.Meets, whatever the amount is.
func TestHandsOn(t *testing.T) {
	days := append(probe.Far(154526), -1, 0, 154162, 154161, 154526, 154896, 154897, lastDay, lastDay+1)
	for _, c := range append(probe.Serving(2022, 2023), probe.Wrong()[:20]...) {
		for _, level := range append(noLevels(), 1, 3, 5) {
			for _, from := range days {
				for _, to := range days {
					s := api.Span{From: from, To: to}
					if _, e := find.Meets(c, level, s); e != api.OK {
						checkRefused(t, c, level, s, e)
					}
				}
			}
		}
	}
}

// P21.3

// TestFollows adds the parts and the exact shares up, and holds them against each other.
func TestFollows(t *testing.T) {
	for _, c := range probe.Serving(2017, 2023) {
		s := probe.Slowly(c)
		bounds := s.Bounds()
		for level := 1; level <= 5; level++ {
			for i, a := range amounts {
				x := api.Span{From: bounds.From + 37*i, To: bounds.To - 53*i}
				l, e := rate.Split(c, level, a, x)
				days, f := rate.Days(c, level, x)
				if e != api.OK || f != api.OK {
					t.Fatalf("%+v, level %d, %v: got %d, %d", c, level, x, e, f)
				}
				checkParts(t, a, l, days)
			}
			exact, e := rate.Exact(c, level, 1000003, bounds)
			sum := new(big.Rat)
			for _, r := range exact {
				sum.Add(sum, big.NewRat(r.N, r.D))
			}
			if sum.Cmp(big.NewRat(1000003, 1)) != 0 || e != api.OK {
				t.Fatalf("%+v, level %d: got %v, %d", c, level, sum, e)
			}
		}
	}
}

// checkParts adds parts up, and holds each against its exact share, and against those of units with as many days.
func checkParts(t *testing.T, a int64, l []api.Share, days []int64) {
	t.Helper()
	all := int64(0)
	for _, many := range days {
		all += many
	}
	sum, first := new(big.Int), map[int64]int64{}
	for i, p := range l {
		sum.Add(sum, big.NewInt(p.N))
		exact := new(big.Rat).Mul(big.NewRat(a, 1), big.NewRat(days[i], all))
		if away := new(big.Rat).Sub(exact, big.NewRat(p.N, 1)); away.Abs(away).Cmp(big.NewRat(1, 1)) >= 0 {
			t.Fatalf("%d: got %v of %v", a, p, exact)
		}
		// What is told behind another one of as many days is never more, and at most one less than the first one.
		if n, met := first[days[i]]; !met {
			first[days[i]] = p.N
		} else if p.N > n || n-p.N > 1 || i > 0 && days[i-1] == days[i] && p.N > l[i-1].N {
			t.Fatalf("%d: got %v behind %d", a, p, n)
		}
	}
	if sum.Cmp(big.NewInt(a)) != 0 {
		t.Fatalf("%d: got %v", a, sum)
	}
}

// TestAnswersAreNew writes into what was told, and behind it.
func TestAnswersAreNew(t *testing.T) {
	for _, c := range probe.Serving(2022, 2024) {
		s := probe.Slowly(c)
		for level := 1; level <= 5; level++ {
			for range 2 {
				checkSlowly(t, s, level, 77777, s.Bounds())
				days, _ := rate.Days(c, level, s.Bounds())
				parts, _ := rate.Split(c, level, 77777, s.Bounds())
				shares, _ := rate.Exact(c, level, 77777, s.Bounds())
				for i := range days {
					days[i], parts[i], shares[i] = -1, api.Share{N: -1}, api.Ratio{}
				}
				_, _, _ = append(days, 9), append(parts, api.Share{N: 9}), append(shares, api.Ratio{N: 9, D: 1})
			}
		}
	}
}
