package twin_test

import (
	"slices"
	"testing"

	"quarterday/api"
	"quarterday/comp"
	"quarterday/probe"
	"quarterday/stamp"
	"quarterday/twin"
	"quarterday/unit"
)

func unitOf(level, y, n int) api.Unit { return api.Unit{Level: level, Year: y, Index: n} }

// weeksOf are weeks of a year that follow one another.
func weeksOf(y, from, to int) []api.Unit {
	var l []api.Unit
	for n := from; n <= to; n++ {
		l = append(l, unitOf(api.WeekL, y, n))
	}
	return l
}

// runsOf are the spans that weeks have together.
func runsOf(s probe.Twins, l []api.Unit) []api.Span {
	var runs []api.Span
	for _, w := range l {
		for day := s.Span(w).From; day <= s.Span(w).To; day++ {
			if n := len(runs); n > 0 && runs[n-1].To == day-1 {
				runs[n-1].To = day
			} else {
				runs = append(runs, api.Span{From: day, To: day})
			}
		}
	}
	return runs
}

// checkTwin holds what is told of a unit against what should be.
func checkTwin(t *testing.T, c api.Cal, u api.Unit, k int, weeks []api.Unit, runs []api.Span, want api.Errno) {
	t.Helper()
	if l, e := twin.Weeks(c, u, k); !slices.Equal(l, weeks) || e != want {
		t.Fatalf("Weeks(%+v, %v, %d): got %v, %d, want %v, %d", c, u, k, l, e, weeks, want)
	}
	if l, e := twin.Runs(c, u, k); !slices.Equal(l, runs) || e != want {
		t.Fatalf("Runs(%+v, %v, %d): got %v, %d, want %v, %d", c, u, k, l, e, runs, want)
	}
}

// checkSlowly holds what is told of a unit that there is against the slow comparison with a year.
func checkSlowly(t *testing.T, s probe.Twins, u api.Unit, other int) {
	t.Helper()
	weeks, want := s.Weeks(u, other)
	checkTwin(t, s.Cal, u, other-u.Year, weeks, runsOf(s, weeks), want)
}

// spansOf reads days, each two of them a span.
func spansOf(t *testing.T, days []string) []api.Span {
	t.Helper()
	var l []api.Span
	for i := 0; i < len(days); i += 2 {
		from, e := stamp.Parse(days[i])
		to, f := stamp.Parse(days[i+1])
		if e != api.OK || f != api.OK {
			t.Fatalf("%v: got %d, %d", days, e, f)
		}
		l = append(l, api.Span{From: from, To: to})
	}
	return l
}

// nrf is the retailers' calendar, of which 2023 has 53 weeks.
func nrf(policy int) api.Cal {
	c := probe.Serving(2020, 2025)[2]
	c.Policy = policy
	return c
}

// pay has ISO years by pay cycles of four weeks, of which 2020 has 53, with one more in the second.
func pay(policy int) api.Cal {
	c := probe.Whole(api.Cal{Kind: api.IsoR, Day: 7, Month: 12, Shape: api.CycleS, Cycle: 4, Extra: 2})
	c.First, c.Last, c.Policy = 2019, 2022, policy
	return c
}

func gov() api.Cal { return probe.Serving(2019, 2025)[5] }

// P20.1, P20.2

func TestWeeksAndRuns(t *testing.T) {
	join := slices.Concat[[]api.Unit]
	for _, x := range []struct {
		c     api.Cal
		u     api.Unit
		k     int
		weeks []api.Unit
		days  []string
		e     api.Errno
	}{
		{nrf(api.DropP), unitOf(4, 2023, 12), -1, weeksOf(2022, 49, 52), []string{"2023-01-01", "2023-01-28"}, api.OK}, {nrf(api.DropP), unitOf(4, 2022, 12), 1, weeksOf(2023, 49, 52), []string{"2023-12-31", "2024-01-27"}, api.OK}, {nrf(api.DropP), unitOf(5, 2023, 53), -1, nil, nil, api.ErrGone}, {nrf(api.DropP), unitOf(5, 2023, 53), 0, weeksOf(2023, 53, 53), []string{"2024-01-28", "2024-02-03"}, api.OK}, {nrf(api.DropP), unitOf(1, 2023, 1), -1, weeksOf(2022, 1, 52), []string{"2022-01-30", "2023-01-28"}, api.OK}, {nrf(api.DropP), unitOf(1, 2022, 1), 1, weeksOf(2023, 1, 52), []string{"2023-01-29", "2024-01-27"}, api.OK},
		{nrf(api.FromP), unitOf(4, 2023, 12), -1, join(weeksOf(2022, 49, 52), weeksOf(2023, 1, 1)), []string{"2023-01-01", "2023-02-04"}, api.OK}, {nrf(api.FromP), unitOf(5, 2023, 53), 1, weeksOf(2025, 1, 1), []string{"2025-02-02", "2025-02-08"}, api.OK}, {nrf(api.FromP), unitOf(5, 2023, 53), 2, nil, nil, api.ErrRange}, {nrf(api.FromP), unitOf(1, 2023, 1), 2, nil, nil, api.ErrRange}, {nrf(api.FromP), unitOf(2, 2023, 1), 2, weeksOf(2025, 1, 26), []string{"2025-02-02", "2025-08-02"}, api.OK}, {nrf(api.FromP), unitOf(3, 2022, 4), 1, weeksOf(2023, 40, 52), []string{"2023-10-29", "2024-01-27"}, api.OK},
		{nrf(api.ShiftP), unitOf(5, 2023, 1), -1, weeksOf(2021, 52, 52), []string{"2022-01-23", "2022-01-29"}, api.OK}, {nrf(api.ShiftP), unitOf(5, 2023, 1), 1, weeksOf(2023, 53, 53), []string{"2024-01-28", "2024-02-03"}, api.OK}, {nrf(api.ShiftP), unitOf(5, 2023, 1), -3, nil, nil, api.ErrRange}, {nrf(api.ShiftP), unitOf(4, 2023, 1), -3, nil, nil, api.ErrRange}, {nrf(api.ShiftP), unitOf(4, 2023, 2), -3, weeksOf(2020, 4, 8), []string{"2020-02-23", "2020-03-28"}, api.OK}, {nrf(api.ShiftP), unitOf(4, 2024, 1), -1, weeksOf(2023, 2, 5), []string{"2023-02-05", "2023-03-04"}, api.OK}, {nrf(api.ShiftP), unitOf(3, 2023, 1), -1, join(weeksOf(2021, 52, 52), weeksOf(2022, 1, 12)), []string{"2022-01-23", "2022-04-23"}, api.OK}, {nrf(api.ShiftP), unitOf(1, 2023, 1), 1, join(weeksOf(2023, 53, 53), weeksOf(2024, 1, 52)), []string{"2024-01-28", "2025-02-01"}, api.OK},
		{pay(api.DropP), unitOf(3, 2021, 1), -1, join(weeksOf(2020, 1, 8), weeksOf(2020, 10, 13)), []string{"2019-12-30", "2020-02-23", "2020-03-02", "2020-03-29"}, api.OK}, {pay(api.DropP), unitOf(4, 2021, 2), -1, weeksOf(2020, 5, 8), []string{"2020-01-27", "2020-02-23"}, api.OK}, {pay(api.DropP), unitOf(4, 2021, 3), -1, weeksOf(2020, 10, 13), []string{"2020-03-02", "2020-03-29"}, api.OK}, {pay(api.DropP), unitOf(4, 2020, 2), 1, weeksOf(2021, 5, 8), []string{"2021-02-01", "2021-02-28"}, api.OK}, {pay(api.DropP), unitOf(5, 2020, 9), 1, nil, nil, api.ErrGone}, {pay(api.DropP), unitOf(5, 2020, 9), -1, nil, nil, api.ErrGone}, {pay(api.DropP), unitOf(5, 2020, 10), -1, weeksOf(2019, 9, 9), []string{"2019-02-25", "2019-03-03"}, api.OK}, {pay(api.DropP), unitOf(1, 2020, 1), 2, weeksOf(2022, 1, 52), []string{"2022-01-03", "2023-01-01"}, api.OK},
		{pay(api.ShiftP), unitOf(3, 2021, 1), -1, weeksOf(2020, 2, 13), []string{"2020-01-06", "2020-03-29"}, api.OK}, {pay(api.FromP), unitOf(5, 2020, 53), 2, nil, nil, api.ErrRange}, {pay(api.FromP), unitOf(5, 2020, 53), 1, weeksOf(2022, 1, 1), []string{"2022-01-03", "2022-01-09"}, api.OK}, {pay(api.ShiftP), unitOf(1, 2020, 1), -1, nil, nil, api.ErrRange}, {pay(api.ShiftP), unitOf(1, 2020, 1), 1, join(weeksOf(2020, 53, 53), weeksOf(2021, 1, 52)), []string{"2020-12-28", "2022-01-02"}, api.OK},
		{gov(), unitOf(4, 2024, 5), -1, weeksOf(2023, 21, 24), []string{"2023-02-01", "2023-02-28"}, api.OK}, {gov(), unitOf(4, 2023, 5), 1, weeksOf(2024, 21, 25), []string{"2024-02-01", "2024-02-29"}, api.OK}, {gov(), unitOf(5, 2024, 25), -1, nil, nil, api.ErrGone}, {gov(), unitOf(5, 2024, 25), -4, weeksOf(2020, 25, 25), []string{"2020-02-29", "2020-02-29"}, api.OK}, {gov(), unitOf(5, 2024, 24), -1, weeksOf(2023, 24, 24), []string{"2023-02-22", "2023-02-28"}, api.OK}, {gov(), unitOf(5, 2024, 26), -1, weeksOf(2023, 25, 25), []string{"2023-03-01", "2023-03-07"}, api.OK}, {gov(), unitOf(5, 2023, 25), 1, weeksOf(2024, 26, 26), []string{"2024-03-01", "2024-03-07"}, api.OK}, {gov(), unitOf(5, 2023, 59), 1, weeksOf(2024, 60, 60), []string{"2024-09-29", "2024-09-30"}, api.OK}, {gov(), unitOf(1, 2023, 1), 1, weeksOf(2024, 1, 60), []string{"2023-10-01", "2024-09-30"}, api.OK}, {gov(), unitOf(3, 2024, 2), -4, weeksOf(2020, 16, 30), []string{"2020-01-01", "2020-03-31"}, api.OK}, {gov(), unitOf(3, 2024, 2), -6, nil, nil, api.ErrRange}, {gov(), unitOf(5, 2024, 25), 2, nil, nil, api.ErrRange}, {gov(), unitOf(5, 2024, 25), 0, weeksOf(2024, 25, 25), []string{"2024-02-29", "2024-02-29"}, api.OK},
	} {
		checkTwin(t, x.c, x.u, x.k, x.weeks, spansOf(t, x.days), x.e)
	}
}

// checkYears has all units of years, each against all years that are served, and those beside them.
func checkYears(t *testing.T, s probe.Twins, years ...int) {
	t.Helper()
	for _, y := range years {
		for level, l := range s.Years[y].Units {
			for i := range l {
				for other := s.Cal.First - 1; other <= s.Cal.Last+1; other++ {
					checkSlowly(t, s, unitOf(level, y, i+1), other)
				}
			}
		}
	}
}

// TestEachUnit has all units of some years, with each policy, also where what they are compared with is not served.
func TestEachUnit(t *testing.T) {
	for _, x := range [][2]int{{1602, 1605}, {2018, 2024}, {9993, 9996}, {2023, 2023}, {2020, 2021}, {2022, 2023}} {
		for _, c := range probe.Serving(x[0], x[1]) {
			probe.EachPolicy(c, func(c api.Cal) {
				s := probe.Twinned(c)
				checkYears(t, s, x[0], (x[0]+x[1])/2, x[1])
			})
		}
	}
}

// TestEachCut has all units of a year of 52 weeks and of one of 53, with each shape, and each period that may have one more.
func TestEachCut(t *testing.T) {
	probe.EachCut(api.Cal{Kind: api.LastR, Day: 6, Month: 9}, func(c api.Cal) {
		c = probe.Whole(c)
		c.First, c.Last, c.Policy = 2022, 2023, api.DropP
		checkYears(t, probe.Twinned(c), 2022, 2023)
		c.First, c.Last, c.Policy = 2023, 2024, 1+c.Extra%2
		checkYears(t, probe.Twinned(c), 2023)
	})
}

// TestEachRule has some units of years of each rule.
func TestEachRule(t *testing.T) {
	probe.EachCal(func(c api.Cal) {
		c.First, c.Last = 2016, 2024
		s := probe.Twinned(c)
		for _, u := range []api.Unit{unitOf(1, 2020, 1), unitOf(2, 2023, 2), unitOf(3, 2017, 1), unitOf(4, 2017, 12), unitOf(4, 2018, 5), unitOf(5, 2016, 1), unitOf(5, 2022, 25), unitOf(5, 2024, 52)} {
			for other := c.First - 1; other <= c.Last+1; other++ {
				checkSlowly(t, s, u, other)
			}
		}
	})
}

// TestManyYears goes from the first year that is served to the last one, and back, and a year beyond.
func TestManyYears(t *testing.T) {
	for _, x := range [][2]int{{1602, 2001}, {1850, 2249}, {9597, 9996}} {
		for _, c := range probe.Serving(x[0], x[1]) {
			s := probe.Twinned(c)
			for level := 1; level <= 5; level++ {
				checkSlowly(t, s, unitOf(level, c.First, 1), c.Last)
				checkSlowly(t, s, unitOf(level, c.Last, 1), c.First)
				checkSlowly(t, s, unitOf(level, c.First, 1), c.Last+1)
				checkSlowly(t, s, unitOf(level, c.Last, 1), c.First-1)
			}
		}
	}
}

// TestErrors has units, years and calendars that may not be, and more than one of these at once.
func TestErrors(t *testing.T) {
	years := append(probe.Far(0), 0, 1, -1, 2, -2, 3, -3, 1<<63-1-2022, -1<<63+2022)
	for _, c := range append(probe.Serving(2022, 2023), probe.Wrong()...) {
		for _, level := range append(probe.Far(5), -1, 0, 1, 3, 5, 6) {
			for _, y := range append(probe.Far(2022), 2021, 2022, 2023, 2024) {
				for _, n := range append(probe.Far(1), -1, 0, 1, 61) {
					e := unit.Check(c, unitOf(level, y, n))
					for _, k := range years {
						if e != api.OK {
							checkTwin(t, c, unitOf(level, y, n), k, nil, nil, e)
						} else if k < -1 || k > 1 || y+k < 2022 || y+k > 2023 {
							checkTwin(t, c, unitOf(level, y, n), k, nil, nil, api.ErrRange)
						}
					}
				}
			}
		}
	}
}

// P20.3

// TestFollows compares the days of units one by one: those of runs are just these.
func TestFollows(t *testing.T) {
	for _, c := range probe.Serving(2017, 2023) {
		if c.Kind == api.MonthR {
			continue
		}
		probe.EachPolicy(c, func(c api.Cal) {
			for y := c.First; y <= c.Last; y += 3 {
				for other := c.First; other <= c.Last; other++ {
					for level := 1; level <= 5; level++ {
						many, _ := unit.Count(c, level, y)
						for n := 1; n <= many; n += 1 + many/15 {
							checkDays(t, c, unitOf(level, y, n), other-y)
						}
						checkDays(t, c, unitOf(level, y, many), other-y)
					}
				}
			}
		})
	}
}

// checkDays holds the days of runs against those with which the days of a unit are compared.
func checkDays(t *testing.T, c api.Cal, u api.Unit, k int) {
	t.Helper()
	runs, e := twin.Runs(c, u, k)
	if e == api.ErrRange {
		return
	}
	left := map[int]bool{}
	for _, s := range runs {
		for day := s.From; day <= s.To; day++ {
			left[day] = true
		}
	}
	s, _ := unit.Span(c, u)
	for day := s.From; day <= s.To; day++ {
		other, e := comp.Day(c, day, k)
		if e == api.OK && !left[other] || e != api.OK && e != api.ErrGone {
			t.Fatalf("%+v, %v, %d: got %d, %d for %d, not in %v", c, u, k, other, e, day, runs)
		}
		delete(left, other)
	}
	if len(left) > 0 || (e == api.ErrGone) != (len(runs) == 0) {
		t.Fatalf("%+v, %v, %d: got %d days too many in %v, %d", c, u, k, len(left), runs, e)
	}
}

// TestAnswersAreNew writes into what was told, and behind it.
func TestAnswersAreNew(t *testing.T) {
	for _, c := range probe.Serving(2022, 2024) {
		s := probe.Twinned(c)
		for _, u := range []api.Unit{unitOf(1, 2023, 1), unitOf(2, 2023, 2), unitOf(4, 2022, 1), unitOf(5, 2023, 5), unitOf(5, 2024, 30)} {
			weeks, e := s.Weeks(u, u.Year)
			if e != api.OK {
				t.Fatalf("%v: got %d", u, e)
			}
			for range 2 {
				checkTwin(t, c, u, 0, weeks, runsOf(s, weeks), api.OK)
				l, _ := twin.Weeks(c, u, 0)
				m, _ := twin.Runs(c, u, 0)
				for i := range l {
					l[i].Index = -1
				}
				for i := range m {
					m[i].From = -1
				}
				_, _ = append(l, unitOf(9, 9, 9)), append(m, api.Span{From: 9})
			}
		}
	}
}
