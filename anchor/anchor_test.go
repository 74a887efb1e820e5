package anchor

import (
	"testing"

	"quarterday/api"
	"quarterday/civil"
	"quarterday/probe"
	"quarterday/stamp"
	"quarterday/week"
)

const (
	least = -1 << 63
	most  = 1<<63 - 1
)

// lasting and nearest are calendars whose years end on the last weekday of a month, and on the nearest one, monthly one of months.
func lasting(day, month, shift int) api.Cal {
	return probe.Whole(api.Cal{Kind: api.LastR, Day: day, Month: month, Shift: shift, Shape: api.FourS, Extra: 13})
}

func nearest(day, month, shift int) api.Cal {
	c := lasting(day, month, shift)
	c.Kind = api.NearR
	return c
}

func monthly(month, shift int) api.Cal {
	return probe.Whole(api.Cal{Kind: api.MonthR, Month: month, Shift: shift, Shape: api.MonthS})
}

// The retailers', the broadcasters' and the ISO calendar.
func nrf() api.Cal { return probe.Cals()[2] }

func broad() api.Cal { return probe.Cals()[3] }

func iso() api.Cal { return probe.Cals()[4] }

// someYears are the first ones, the last ones, and some between.
func someYears(step int) []int {
	var l []int
	for y := 1600; y <= 9997; y++ {
		if y < 1610 || y > 9990 || y%step == 0 || y > 1998 && y < 2010 {
			l = append(l, y)
		}
	}
	return l
}

// checkYear holds all that is told of a year against its first day and its last one.
func checkYear(t *testing.T, c api.Cal, y, from, to int) {
	t.Helper()
	if day, e := End(c, y); day != to || e != api.OK {
		t.Fatalf("End(%+v, %d): got %d, %d, want %d", c, y, day, e, to)
	}
	if day, e := Start(c, y); day != from || e != api.OK {
		t.Fatalf("Start(%+v, %d): got %d, %d, want %d", c, y, day, e, from)
	}
	if n, e := Days(c, y); n != to-from+1 || e != api.OK {
		t.Fatalf("Days(%+v, %d): got %d, %d, want %d", c, y, n, e, to-from+1)
	}
	weeks, want := (to-from+1)/7, api.OK
	if c.Kind == api.MonthR {
		weeks, want = 0, api.ErrArg
	}
	if n, e := Weeks(c, y); n != weeks || e != want {
		t.Fatalf("Weeks(%+v, %d): got %d, %d, want %d, %d", c, y, n, e, weeks, want)
	}
}

// P13.1, P13.2, P13.3

// TestYears has years that are known.
func TestYears(t *testing.T) {
	for _, x := range []struct {
		c        api.Cal
		y        int
		from, to string
		weeks    int
	}{
		{nrf(), 2000, "2000-01-30", "2001-02-03", 53}, {nrf(), 2005, "2005-01-30", "2006-01-28", 52}, {nrf(), 2006, "2006-01-29", "2007-02-03", 53}, {nrf(), 2012, "2012-01-29", "2013-02-02", 53}, {nrf(), 2017, "2017-01-29", "2018-02-03", 53}, {nrf(), 2018, "2018-02-04", "2019-02-02", 52},
		{nrf(), 2022, "2022-01-30", "2023-01-28", 52}, {nrf(), 2023, "2023-01-29", "2024-02-03", 53}, {nrf(), 2024, "2024-02-04", "2025-02-01", 52},
		{broad(), 2022, "2021-12-27", "2022-12-25", 52}, {broad(), 2023, "2022-12-26", "2023-12-31", 53}, {broad(), 2024, "2024-01-01", "2024-12-29", 52},
		{iso(), 2015, "2014-12-29", "2016-01-03", 53}, {iso(), 2020, "2019-12-30", "2021-01-03", 53}, {iso(), 2021, "2021-01-04", "2022-01-02", 52}, {iso(), 2026, "2025-12-29", "2027-01-03", 53},
		{lasting(6, 9, 0), 2023, "2022-09-25", "2023-09-30", 53}, {lasting(6, 9, 0), 2024, "2023-10-01", "2024-09-28", 52}, {lasting(6, 9, 0), 2017, "2016-09-25", "2017-09-30", 53}, {lasting(6, 7, 0), 2016, "2015-07-26", "2016-07-30", 53}, {lasting(6, 9, 1), 2022, "2022-09-25", "2023-09-30", 53},
		{nearest(7, 12, 0), 2020, "2019-12-30", "2021-01-03", 53}, {nearest(7, 12, 0), 2023, "2023-01-02", "2023-12-31", 52}, {nearest(7, 12, 0), 2024, "2024-01-01", "2024-12-29", 52}, {nearest(7, 12, 1), 2019, "2019-12-30", "2021-01-03", 53}, {nearest(6, 1, 0), 2024, "2023-01-29", "2024-02-03", 53},
		{lasting(4, 2, 0), 2024, "2023-02-24", "2024-02-29", 53}, {lasting(5, 2, 0), 2024, "2023-02-25", "2024-02-23", 52}, {nearest(1, 2, 0), 2024, "2023-02-28", "2024-02-26", 52}, {nearest(7, 2, 0), 2024, "2023-02-27", "2024-03-03", 53},
		{monthly(9, 0), 2024, "2023-10-01", "2024-09-30", 0}, {monthly(3, 1), 2023, "2023-04-01", "2024-03-31", 0}, {monthly(12, 0), 2024, "2024-01-01", "2024-12-31", 0}, {monthly(12, 1), 2023, "2024-01-01", "2024-12-31", 0}, {monthly(1, 0), 2024, "2023-02-01", "2024-01-31", 0}, {monthly(1, 1), 2023, "2023-02-01", "2024-01-31", 0},
		{monthly(2, 0), 2024, "2023-03-01", "2024-02-29", 0}, {monthly(2, 0), 2023, "2022-03-01", "2023-02-28", 0}, {monthly(2, 0), 1900, "1899-03-01", "1900-02-28", 0}, {monthly(2, 0), 2000, "1999-03-01", "2000-02-29", 0}, {monthly(2, 1), 1999, "1999-03-01", "2000-02-29", 0}, {monthly(4, 0), 2001, "2000-05-01", "2001-04-30", 0},
		{monthly(12, 0), 1601, "1601-01-01", "1601-12-31", 0}, {monthly(12, 1), 9997, "9998-01-01", "9998-12-31", 0}, {nearest(6, 1, 0), 1601, "1600-01-30", "1601-02-03", 53}, {nearest(4, 12, 1), 9997, "9998-01-02", "9998-12-31", 52},
	} {
		from, e := stamp.Parse(x.from)
		to, f := stamp.Parse(x.to)
		if e != api.OK || f != api.OK || x.weeks > 0 && to-from+1 != 7*x.weeks {
			t.Fatalf("%s to %s: got %d, %d", x.from, x.to, e, f)
		}
		checkYear(t, x.c, x.y, from, to)
	}
}

// TestYearsOfEachRule looks for the ends of some years of each rule day by day, and of all years of some rules.
func TestYearsOfEachRule(t *testing.T) {
	check := func(c api.Cal, y int) {
		if day, e := End(c, y); day != probe.End(c, y) || e != api.OK {
			t.Fatalf("End(%+v, %d): got %d, %d, want %d", c, y, day, e, probe.End(c, y))
		}
		if y > 1600 {
			checkYear(t, c, y, probe.End(c, y-1)+1, probe.End(c, y))
		}
	}
	probe.EachCal(func(c api.Cal) {
		for _, y := range someYears(41) {
			check(c, y)
		}
	})
	for _, c := range probe.Cals() {
		for y := 1600; y <= 9997; y++ {
			check(c, y)
		}
	}
}

// TestFirstEnd has the one year of which only the end is told.
func TestFirstEnd(t *testing.T) {
	for _, x := range []struct {
		c  api.Cal
		to string
	}{
		{nrf(), "1601-02-03"}, {broad(), "1600-12-31"}, {iso(), "1600-12-31"}, {nearest(6, 1, 0), "1600-01-29"}, {nearest(2, 1, 0), "1600-02-01"}, {lasting(6, 1, 0), "1600-01-29"}, {lasting(2, 1, 0), "1600-01-25"}, {nearest(4, 1, 0), "1600-02-03"}, {lasting(2, 2, 0), "1600-02-29"}, {monthly(1, 0), "1600-01-31"}, {monthly(2, 0), "1600-02-29"}, {monthly(2, 1), "1601-02-28"},
	} {
		want, e := stamp.Parse(x.to)
		if day, f := End(x.c, 1600); day != want || e != api.OK || f != api.OK {
			t.Errorf("End(%+v, 1600): got %d, %d, %d, want %d", x.c, day, e, f, want)
		}
	}
}

// checkErrors holds all calls against the errors that they should tell of a year.
func checkErrors(t *testing.T, c api.Cal, y int, end, start, weeks api.Errno) {
	t.Helper()
	if day, e := End(c, y); e != end || e != api.OK && day != 0 {
		t.Errorf("End(%+v, %d): got %d, %d, want %d", c, y, day, e, end)
	}
	if day, e := Start(c, y); e != start || e != api.OK && day != 0 {
		t.Errorf("Start(%+v, %d): got %d, %d, want %d", c, y, day, e, start)
	}
	if n, e := Days(c, y); e != start || e != api.OK && n != 0 {
		t.Errorf("Days(%+v, %d): got %d, %d, want %d", c, y, n, e, start)
	}
	if n, e := Weeks(c, y); e != weeks || e != api.OK && n != 0 {
		t.Errorf("Weeks(%+v, %d): got %d, %d, want %d", c, y, n, e, weeks)
	}
}

// noYears are no fiscal years that can be told, nor one whose end can be.
var noYears = []int{1599, 9998, 1598, 9999, 10000, 1200, 0, 1, -1, -2000, 2000 + 1<<32, 2000 - 1<<32, least, least + 1, most - 1, most}

// TestErrors has wrong years of each rule, wrong calendars, and both.
func TestErrors(t *testing.T) {
	probe.EachCal(func(c api.Cal) {
		weeks := func(e api.Errno) api.Errno {
			if c.Kind == api.MonthR {
				return api.ErrArg
			}
			return e
		}
		for _, y := range noYears {
			checkErrors(t, c, y, api.ErrRange, api.ErrRange, weeks(api.ErrRange))
		}
		checkErrors(t, c, 1600, api.OK, api.ErrRange, weeks(api.ErrRange))
		checkErrors(t, c, 1601, api.OK, api.OK, weeks(api.OK))
		checkErrors(t, c, 9997, api.OK, api.OK, weeks(api.OK))
	})
	for _, c := range probe.Wrong() {
		for _, y := range append(noYears, 1600, 1601, 2000, 9997) {
			checkErrors(t, c, y, api.ErrArg, api.ErrArg, api.ErrArg)
		}
	}
}

// TestYearsNotServed has years that the calendar does not serve: they are told, too.
func TestYearsNotServed(t *testing.T) {
	c := nrf()
	c.First, c.Last = 2000, 2000
	for _, y := range []int{1601, 1999, 2000, 2001, 9997} {
		checkYear(t, c, y, probe.End(c, y-1)+1, probe.End(c, y))
	}
}

// P13.4

// TestFollows goes through years from the first one to the last one.
func TestFollows(t *testing.T) {
	short, long := 0, 0
	follow := func(c api.Cal) {
		ahead, _ := End(c, 1600)
		for y := 1601; y <= 9997; y++ {
			from, _ := Start(c, y)
			days, _ := Days(c, y)
			end, _ := End(c, y)
			if from != ahead+1 || end != ahead+days {
				t.Fatalf("%+v, %d: got %d to %d, %d days, behind %d", c, y, from, end, days, ahead)
			}
			ahead = end
			if c.Kind == api.MonthR {
				continue
			}
			weeks, e := Weeks(c, y)
			weekday, _ := civil.Weekday(from)
			if days != 364 && days != 371 || weeks*7 != days || e != api.OK || weekday != c.Day%7+1 {
				t.Fatalf("%+v, %d: got %d days, %d weeks, %d, from weekday %d", c, y, days, weeks, e, weekday)
			}
			if days == 364 {
				short++
			} else {
				long++
			}
		}
	}
	for _, c := range probe.Cals() {
		follow(c)
	}
	for month := 1; month <= 12; month++ {
		follow(lasting(1+month%7, month, month%2))
		follow(nearest(1+month%5, month, 1-month%2))
		follow(monthly(month, month%2))
	}
	if short < 5*long/2 || long < short/6 {
		t.Errorf("got %d years of 52 weeks, %d of 53", short, long)
	}
}

// TestIsoYears holds the ISO calendar's years against those of layer week.
func TestIsoYears(t *testing.T) {
	for y := 1601; y <= 9997; y++ {
		many, _ := week.Many(y)
		first, _ := week.Day(api.Iso{Y: y, W: 1, D: 1})
		last, e := week.Day(api.Iso{Y: y, W: many, D: 7})
		if e != api.OK {
			t.Fatalf("%d: got %d", y, e)
		}
		checkYear(t, iso(), y, first, last)
	}
}

// TestBroadcastYears looks for the last Sunday ahead of each civil year's first day.
func TestBroadcastYears(t *testing.T) {
	for y := 1600; y <= 9997; y++ {
		want, _ := civil.Day(api.Date{Y: y, M: 12, D: 31})
		for weekday, _ := civil.Weekday(want); weekday%7 != 0; weekday-- {
			want--
		}
		if day, e := End(broad(), y); day != want || e != api.OK {
			t.Fatalf("%d: got %d, %d, want %d", y, day, e, want)
		}
	}
}
