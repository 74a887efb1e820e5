package comp_test

import (
	"testing"

	"quarterday/api"
	"quarterday/comp"
	"quarterday/probe"
	"quarterday/stamp"
)

const lastDay = api.Days - 1

// checkWeek holds what is told of a week against what should be.
func checkWeek(t *testing.T, c api.Cal, y, other, w, want int, wantE api.Errno) {
	t.Helper()
	if n, e := comp.Week(c, y, other, w); n != want || e != wantE {
		t.Fatalf("Week(%+v, %d, %d, %d): got %d, %d, want %d, %d", c, y, other, w, n, e, want, wantE)
	}
}

// checkDay holds what is told of a day against what should be.
func checkDay(t *testing.T, c api.Cal, day, k, want int, wantE api.Errno) {
	t.Helper()
	if got, e := comp.Day(c, day, k); got != want || e != wantE {
		t.Fatalf("Day(%+v, %d, %d): got %d, %d, want %d, %d", c, day, k, got, e, want, wantE)
	}
}

// dayOf reads a day; an empty text is day 0.
func dayOf(t *testing.T, s string) int {
	t.Helper()
	if s == "" {
		return 0
	}
	day, e := stamp.Parse(s)
	if e != api.OK {
		t.Fatalf("%s: got %d", s, e)
	}
	return day
}

// nrf is the retailers' calendar, of which 2023 and 2017 have 53 weeks.
func nrf(policy int) api.Cal {
	c := probe.Serving(2015, 2025)[2]
	c.Policy = policy
	return c
}

// pay has ISO years by pay cycles of a length, of which 2020 and 2015 have 53 weeks.
func pay(cycle, extra, policy int) api.Cal {
	c := probe.Whole(api.Cal{Kind: api.IsoR, Day: 7, Month: 12, Shape: api.CycleS, Cycle: cycle, Extra: extra})
	c.First, c.Last, c.Policy = 2015, 2025, policy
	return c
}

// fours has thirteen periods of four weeks, and years that end on the last Saturday of September, of which 2023 and 2017 have 53 weeks.
func fours(extra, policy int) api.Cal {
	c := probe.Whole(api.Cal{Kind: api.LastR, Day: 6, Month: 9, Shape: api.FourS, Extra: extra})
	c.First, c.Last, c.Policy = 2015, 2025, policy
	return c
}

func gov() api.Cal { return probe.Serving(2015, 2025)[5] }

// P19.1

func TestWeek(t *testing.T) {
	for _, x := range []struct {
		c           api.Cal
		y, other, w int
		n           int
		e           api.Errno
	}{
		{nrf(api.FromP), 2023, 2022, 1, 1, api.OK}, {nrf(api.FromP), 2023, 2022, 52, 52, api.OK}, {nrf(api.FromP), 2023, 2022, 53, 53, api.OK}, {nrf(api.FromP), 2022, 2023, 52, 52, api.OK}, {nrf(api.FromP), 2023, 2017, 53, 53, api.OK}, {nrf(api.FromP), 2023, 2023, 20, 20, api.OK}, {nrf(api.FromP), 2022, 2024, 1, 1, api.OK},
		{nrf(api.ShiftP), 2023, 2022, 1, 0, api.OK}, {nrf(api.ShiftP), 2023, 2022, 2, 1, api.OK}, {nrf(api.ShiftP), 2023, 2022, 53, 52, api.OK}, {nrf(api.ShiftP), 2022, 2023, 1, 2, api.OK}, {nrf(api.ShiftP), 2022, 2023, 52, 53, api.OK}, {nrf(api.ShiftP), 2023, 2017, 53, 53, api.OK}, {nrf(api.ShiftP), 2024, 2022, 52, 52, api.OK}, {nrf(api.ShiftP), 2023, 2023, 1, 1, api.OK}, {nrf(api.ShiftP), 2024, 2023, 1, 2, api.OK},
		{nrf(api.DropP), 2023, 2022, 52, 52, api.OK}, {nrf(api.DropP), 2023, 2022, 53, 0, api.ErrGone}, {nrf(api.DropP), 2022, 2023, 52, 52, api.OK}, {nrf(api.DropP), 2023, 2017, 53, 53, api.OK}, {nrf(api.DropP), 2023, 2023, 53, 53, api.OK}, {nrf(api.DropP), 2022, 2021, 52, 52, api.OK},
		{pay(4, 2, api.DropP), 2020, 2021, 8, 8, api.OK}, {pay(4, 2, api.DropP), 2020, 2021, 9, 0, api.ErrGone}, {pay(4, 2, api.DropP), 2020, 2021, 10, 9, api.OK}, {pay(4, 2, api.DropP), 2020, 2021, 53, 52, api.OK}, {pay(4, 2, api.DropP), 2021, 2020, 8, 8, api.OK}, {pay(4, 2, api.DropP), 2021, 2020, 9, 10, api.OK}, {pay(4, 2, api.DropP), 2021, 2020, 52, 53, api.OK}, {pay(4, 2, api.DropP), 2020, 2015, 9, 9, api.OK}, {pay(4, 2, api.DropP), 2020, 2015, 10, 10, api.OK}, {pay(4, 2, api.DropP), 2015, 2020, 8, 8, api.OK},
		{pay(1, 1, api.DropP), 2020, 2021, 1, 1, api.OK}, {pay(1, 1, api.DropP), 2020, 2021, 2, 0, api.ErrGone}, {pay(1, 1, api.DropP), 2020, 2021, 3, 2, api.OK}, {pay(1, 1, api.DropP), 2021, 2020, 1, 1, api.OK}, {pay(1, 1, api.DropP), 2021, 2020, 2, 3, api.OK}, {pay(1, 52, api.DropP), 2021, 2020, 52, 52, api.OK}, {pay(2, 13, api.DropP), 2020, 2019, 27, 0, api.ErrGone}, {pay(2, 13, api.DropP), 2020, 2019, 28, 27, api.OK}, {pay(2, 13, api.DropP), 2019, 2020, 27, 28, api.OK},
		{pay(4, 2, api.FromP), 2020, 2021, 9, 9, api.OK}, {pay(4, 2, api.FromP), 2021, 2020, 9, 9, api.OK}, {pay(4, 2, api.ShiftP), 2020, 2021, 9, 8, api.OK}, {pay(4, 2, api.ShiftP), 2021, 2020, 8, 9, api.OK},
		{fours(1, api.DropP), 2023, 2024, 5, 0, api.ErrGone}, {fours(1, api.DropP), 2023, 2024, 6, 5, api.OK}, {fours(1, api.DropP), 2024, 2023, 5, 6, api.OK}, {fours(1, api.DropP), 2017, 2023, 5, 5, api.OK}, {fours(13, api.DropP), 2023, 2024, 53, 0, api.ErrGone}, {fours(13, api.DropP), 2024, 2023, 52, 52, api.OK},
	} {
		checkWeek(t, x.c, x.y, x.other, x.w, x.n, x.e)
	}
}

// TestEachWeek has all weeks of some years, and those beside them, against each of these years.
func TestEachWeek(t *testing.T) {
	check := func(c api.Cal, years ...int) {
		probe.EachPolicy(c, func(c api.Cal) {
			s := probe.Slowly(c)
			for _, y := range years {
				for _, other := range years {
					for w := 1; w <= s.Years[y].Many(); w++ {
						want, wantE := s.Week(y, other, w)
						checkWeek(t, c, y, other, w, want, wantE)
					}
					checkWeek(t, c, y, other, 0, 0, api.ErrNone)
					checkWeek(t, c, y, other, s.Years[y].Many()+1, 0, api.ErrNone)
				}
			}
		})
	}
	for _, x := range [][2]int{{1602, 1608}, {2011, 2024}, {9990, 9996}} {
		for _, c := range probe.Serving(x[0], x[1]) {
			var years []int
			for y := x[0]; y <= x[1]; y++ {
				years = append(years, y)
			}
			if c.Kind != api.MonthR {
				check(c, years...)
			}
		}
	}
	probe.EachCut(api.Cal{Kind: api.LastR, Day: 6, Month: 9}, func(c api.Cal) {
		c = probe.Whole(c)
		c.First, c.Last = 2016, 2024
		check(c, 2016, 2017, 2018, 2023, 2024)
	})
}

// TestWeekErrors has years, weeks and calendars that may not be, and more than one of these at once.
func TestWeekErrors(t *testing.T) {
	noWeeks := append(probe.Far(20), -1, 0, 54, 55)
	noYears := append(probe.Far(2020), 2014, 2026, 1601, 0, -2020, 9997)
	for policy := api.FromP; policy <= api.DropP; policy++ {
		for _, c := range []api.Cal{nrf(policy), pay(4, 2, policy), fours(1, policy)} {
			for _, w := range append(noWeeks, 53) {
				checkWeek(t, c, 2022, 2021, w, 0, api.ErrNone)
				checkWeek(t, c, 2022, 2022, w, 0, api.ErrNone)
			}
			for _, w := range noWeeks {
				checkWeek(t, c, 2023, 2020, w, 0, api.ErrNone)
				checkWeek(t, c, 2020, 2023, w, 0, api.ErrNone)
			}
			for _, y := range noYears {
				for _, w := range append(noWeeks, 1, 20, 52, 53) {
					checkWeek(t, c, y, 2020, w, 0, api.ErrRange)
					checkWeek(t, c, 2020, y, w, 0, api.ErrRange)
					checkWeek(t, c, y, y, w, 0, api.ErrRange)
				}
			}
		}
	}
	for _, c := range append(probe.Wrong(), gov(), probe.Serving(2015, 2025)[7]) {
		for _, y := range append(noYears, 2000, 2020) {
			for _, w := range append(noWeeks, 1, 52) {
				checkWeek(t, c, y, 2000, w, 0, api.ErrArg)
				checkWeek(t, c, 2020, y, w, 0, api.ErrArg)
			}
		}
	}
}

// P19.2

func TestDay(t *testing.T) {
	for _, x := range []struct {
		c    api.Cal
		day  string
		k    int
		want string
		e    api.Errno
	}{
		{nrf(api.FromP), "2024-02-04", -1, "2023-01-29", api.OK}, {nrf(api.FromP), "2024-02-03", -1, "2023-02-04", api.OK}, {nrf(api.FromP), "2024-02-03", 1, "2025-02-08", api.OK}, {nrf(api.FromP), "2024-01-27", 1, "2025-02-01", api.OK}, {nrf(api.FromP), "2024-02-03", 0, "2024-02-03", api.OK}, {nrf(api.FromP), "2024-02-03", -6, "2018-02-03", api.OK}, {nrf(api.FromP), "2023-01-28", 1, "2024-01-27", api.OK},
		{nrf(api.ShiftP), "2024-02-04", -1, "2023-02-05", api.OK}, {nrf(api.ShiftP), "2025-02-01", -1, "2024-02-03", api.OK}, {nrf(api.ShiftP), "2023-01-29", -1, "2022-01-23", api.OK}, {nrf(api.ShiftP), "2023-02-04", -1, "2022-01-29", api.OK}, {nrf(api.ShiftP), "2023-02-05", -1, "2022-01-30", api.OK}, {nrf(api.ShiftP), "2024-02-03", 1, "2025-02-01", api.OK}, {nrf(api.ShiftP), "2022-01-30", 1, "2023-02-05", api.OK}, {nrf(api.ShiftP), "2024-02-03", 0, "2024-02-03", api.OK},
		{nrf(api.DropP), "2024-02-04", -1, "2023-01-29", api.OK}, {nrf(api.DropP), "2024-02-03", -1, "", api.ErrGone}, {nrf(api.DropP), "2024-01-28", 1, "", api.ErrGone}, {nrf(api.DropP), "2024-01-28", 0, "2024-01-28", api.OK}, {nrf(api.DropP), "2024-01-27", -1, "2023-01-28", api.OK}, {nrf(api.DropP), "2025-02-01", -1, "2024-01-27", api.OK}, {nrf(api.DropP), "2024-01-28", -6, "2018-01-28", api.OK},
		{pay(4, 2, api.DropP), "2020-02-23", 1, "2021-02-28", api.OK}, {pay(4, 2, api.DropP), "2020-02-24", 1, "", api.ErrGone}, {pay(4, 2, api.DropP), "2020-03-01", -1, "", api.ErrGone}, {pay(4, 2, api.DropP), "2020-03-02", 1, "2021-03-01", api.OK}, {pay(4, 2, api.DropP), "2021-02-28", -1, "2020-02-23", api.OK}, {pay(4, 2, api.DropP), "2021-03-01", -1, "2020-03-02", api.OK}, {pay(4, 2, api.DropP), "2021-01-03", 5, "2025-12-28", api.OK}, {pay(4, 2, api.DropP), "2020-02-26", -5, "2015-02-25", api.OK},
		{gov(), "2024-02-29", -1, "2023-02-28", api.OK}, {gov(), "2024-02-29", -4, "2020-02-29", api.OK}, {gov(), "2024-02-28", -1, "2023-02-28", api.OK}, {gov(), "2023-02-28", 1, "2024-02-28", api.OK}, {gov(), "2024-02-29", 0, "2024-02-29", api.OK}, {gov(), "2023-10-31", -3, "2020-10-31", api.OK}, {gov(), "2023-11-30", 1, "2024-11-30", api.OK}, {gov(), "2023-10-01", 1, "2024-10-01", api.OK}, {gov(), "2023-09-30", 1, "2024-09-30", api.OK}, {gov(), "2023-12-31", -8, "2015-12-31", api.OK}, {gov(), "2024-03-31", -1, "2023-03-31", api.OK},
		{nrf(api.FromP), "2024-02-03", 2, "2026-02-07", api.OK}, {nrf(api.FromP), "2024-02-03", 3, "", api.ErrRange}, {nrf(api.FromP), "2024-02-03", -8, "2016-02-06", api.OK}, {nrf(api.FromP), "2024-02-03", -9, "", api.ErrRange}, {nrf(api.ShiftP), "2023-01-29", -8, "2015-01-25", api.OK}, {nrf(api.DropP), "2024-02-03", 3, "", api.ErrRange}, {nrf(api.DropP), "2024-02-03", 2, "", api.ErrGone}, {gov(), "2024-10-01", 1, "", api.ErrRange}, {gov(), "2024-09-30", 1, "2025-09-30", api.OK}, {gov(), "2014-10-01", -1, "", api.ErrRange}, {gov(), "2015-10-01", -1, "2014-10-01", api.OK},
	} {
		checkDay(t, x.c, dayOf(t, x.day), x.k, dayOf(t, x.want), x.e)
	}
}

// TestEachDay has all days of some years against each of these years and those beside them, also where what a day is compared with is not served.
func TestEachDay(t *testing.T) {
	for _, x := range [][2]int{{1602, 1606}, {2020, 2024}, {9993, 9996}, {2023, 2023}} {
		for _, c := range probe.Serving(x[0], x[1]) {
			probe.EachPolicy(c, func(c api.Cal) {
				s := probe.Slowly(c)
				for y := c.First; y <= c.Last; y++ {
					for day := s.Years[y].Days().From; day <= s.Years[y].Days().To; day++ {
						for other := c.First; other <= c.Last; other++ {
							want, wantE := s.Day(y, other, day)
							checkDay(t, c, day, other-y, want, wantE)
						}
						checkDay(t, c, day, c.First-1-y, 0, api.ErrRange)
						checkDay(t, c, day, c.Last+1-y, 0, api.ErrRange)
					}
				}
			})
		}
	}
}

// TestEachCut has the days around the week that was added, with each shape, and each period that may have one more.
func TestEachCut(t *testing.T) {
	probe.EachCut(api.Cal{Kind: api.LastR, Day: 6, Month: 9}, func(c api.Cal) {
		c = probe.Whole(c)
		c.First, c.Last = 2017, 2024
		probe.EachPolicy(c, func(c api.Cal) {
			s := probe.Slowly(c)
			for _, y := range []int{2022, 2023} {
				around := s.Years[y].Days().From + 7*s.Years[2023].Added
				for day := max(around-9, s.Years[y].Days().From); day <= min(around+9, s.Years[y].Days().To); day++ {
					for _, other := range []int{2017, 2022, 2023, 2024} {
						want, wantE := s.Day(y, other, day)
						checkDay(t, c, day, other-y, want, wantE)
					}
				}
			}
		})
	})
}

// TestEachRule has the first and the last days of years of each rule.
func TestEachRule(t *testing.T) {
	probe.EachCal(func(c api.Cal) {
		c.First, c.Last = 2014, 2024
		s := probe.Slowly(c)
		for y := c.First; y <= c.Last; y++ {
			from, to := s.Years[y].Days().From, s.Years[y].Days().To
			for _, day := range []int{from, from + 6, from + 7, from + 59, from + 180, to - 7, to - 6, to} {
				for other := c.First; other <= c.Last; other++ {
					want, wantE := s.Day(y, other, day)
					checkDay(t, c, day, other-y, want, wantE)
				}
			}
		}
	})
}

// TestManyYears goes from the first year that is served to the last one, and back.
func TestManyYears(t *testing.T) {
	for _, x := range [][2]int{{1602, 2001}, {1800, 2199}, {9597, 9996}} {
		for _, c := range probe.Serving(x[0], x[1]) {
			s := probe.Slowly(c)
			for _, years := range [][2]int{{c.First, c.Last}, {c.Last, c.First}} {
				y, other := years[0], years[1]
				for _, day := range []int{s.Years[y].Days().From, s.Years[y].Days().From + 200, s.Years[y].Days().To} {
					want, wantE := s.Day(y, other, day)
					checkDay(t, c, day, other-y, want, wantE)
					checkDay(t, c, day, 400, 0, api.ErrRange)
					checkDay(t, c, day, -400, 0, api.ErrRange)
				}
			}
		}
	}
}

// TestDayErrors has days, years and calendars that may not be, and more than one of these at once.
func TestDayErrors(t *testing.T) {
	noDays := append(probe.Far(153000), -1, -2, lastDay+1, lastDay+2)
	for _, c := range probe.Serving(2015, 2025) {
		from, to := probe.End(c, 2014)+1, probe.End(c, 2025)
		for _, k := range append(probe.Far(0), -1, 0, 1, 11, -11) {
			for _, day := range noDays {
				checkDay(t, c, day, k, 0, api.ErrDate)
			}
			for _, day := range []int{0, 1, from - 1, to + 1, from - 7, to + 7, from - 365, to + 365, lastDay} {
				checkDay(t, c, day, k, 0, api.ErrRange)
			}
		}
		for _, k := range append(probe.Far(0), 11, -11, 12, -12, 400, -400, 1<<63-1-2015, -1<<63+2025) {
			for _, day := range []int{from, from + 1, from + 1000, to - 1, to} {
				checkDay(t, c, day, k, 0, api.ErrRange)
			}
		}
		for _, k := range append(probe.Far(1), 11, 10, 9, 8, 7, 6) {
			checkDay(t, c, to, k, 0, api.ErrRange)
			checkDay(t, c, from, -k, 0, api.ErrRange)
		}
	}
	for _, c := range probe.Wrong() {
		for _, day := range append(noDays, 0, 146156, 146200, lastDay) {
			for _, k := range append(probe.Far(0), 0, 1, -1) {
				checkDay(t, c, day, k, 0, api.ErrArg)
			}
		}
	}
}

// P19.3

// TestFollows goes through the days of years: of two of them the later one is compared with the later one, of its weekday, of the year or the week beside it, and between years of 52 weeks there and back.
func TestFollows(t *testing.T) {
	for _, c := range probe.Serving(2016, 2023) {
		if c.Kind == api.MonthR {
			continue
		}
		probe.EachPolicy(c, func(c api.Cal) {
			s := probe.Slowly(c)
			for y := c.First; y <= c.Last; y++ {
				for other := c.First; other <= c.Last; other++ {
					checkYears(t, s, y, other)
				}
			}
		})
	}
}

// checkYears follows the days of y, compared with those of another year.
func checkYears(t *testing.T, s probe.Slow, y, other int) {
	t.Helper()
	a, b := s.Years[y], s.Years[other]
	first, last := b.Days().From, b.Days().To
	if s.Cal.Policy != api.DropP && a.Many() > b.Many() {
		first, last = first-7, last+7
	}
	ahead := 0
	for day := a.Days().From; day <= a.Days().To; day++ {
		got, e := comp.Day(s.Cal, day, other-y)
		if e == api.ErrGone && s.Cal.Policy == api.DropP && a.Many() == 53 && b.Many() == 52 {
			continue
		}
		if e != api.OK || got <= ahead || (got-day)%7 != 0 || got < first || got > last {
			t.Fatalf("Day(%+v, %d, %d): got %d, %d behind %d", s.Cal, day, other-y, got, e, ahead)
		}
		ahead = got
		if a.Many() == 52 && b.Many() == 52 {
			checkDay(t, s.Cal, got, y-other, day, api.OK)
		}
	}
}
