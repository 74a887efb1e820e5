package year

import (
	"testing"

	"quarterday/api"
	"quarterday/probe"
	"quarterday/stamp"
)

const (
	least   = -1 << 63
	most    = 1<<63 - 1
	lastDay = 3068036
)

// dayOf reads a day.
func dayOf(t *testing.T, s string) int {
	t.Helper()
	day, e := stamp.Parse(s)
	if e != api.OK {
		t.Fatalf("%s: got %d", s, e)
	}
	return day
}

// checkDay holds what is told of a day against the fiscal year in which it lies, and that year's first day.
func checkDay(t *testing.T, c api.Cal, day, y, from int) {
	t.Helper()
	if got, e := Of(c, day); got != y || e != api.OK {
		t.Fatalf("Of(%+v, %d): got %d, %d, want %d", c, day, got, e, y)
	}
	if n, e := Nth(c, day); n != day-from+1 || e != api.OK {
		t.Fatalf("Nth(%+v, %d): got %d, %d, want %d", c, day, n, e, day-from+1)
	}
	want, wantE := y, api.OK
	if y < c.First || y > c.Last {
		want, wantE = 0, api.ErrRange
	}
	if got, e := Served(c, day); got != want || e != wantE {
		t.Fatalf("Served(%+v, %d): got %d, %d, want %d, %d", c, day, got, e, want, wantE)
	}
}

// checkNone holds what is told of a day that lies in no fiscal year.
func checkNone(t *testing.T, c api.Cal, day int, want api.Errno) {
	t.Helper()
	if y, e := Of(c, day); y != 0 || e != want {
		t.Fatalf("Of(%+v, %d): got %d, %d, want %d", c, day, y, e, want)
	}
	if n, e := Nth(c, day); n != 0 || e != want {
		t.Fatalf("Nth(%+v, %d): got %d, %d, want %d", c, day, n, e, want)
	}
	if y, e := Served(c, day); y != 0 || e != want {
		t.Fatalf("Served(%+v, %d): got %d, %d, want %d", c, day, y, e, want)
	}
}

// checkBounds holds which days are served against years' ends that are looked for day by day.
func checkBounds(t *testing.T, c api.Cal) {
	t.Helper()
	want := api.Span{From: probe.End(c, c.First-1) + 1, To: probe.End(c, c.Last)}
	if s, e := Bounds(c); s != want || e != api.OK {
		t.Fatalf("Bounds(%+v): got %v, %d, want %v", c, s, e, want)
	}
}

// noDays are days that the calendar does not have.
var noDays = []int{-1, lastDay + 1, -2, lastDay + 2, 1 << 32, 1<<32 + 146156, -1 << 32, 1 << 62, least, least + 1, least + 146156, most - 1, most}

// P14.1

func TestOf(t *testing.T) {
	cals := probe.Cals()
	last, near, nrf, broad, iso, month := cals[0], cals[1], cals[2], cals[3], cals[4], cals[5]
	for _, x := range []struct {
		c      api.Cal
		day    string
		y, nth int
	}{
		{nrf, "2024-02-03", 2023, 371}, {nrf, "2024-02-04", 2024, 1}, {nrf, "2023-01-29", 2023, 1}, {nrf, "2023-01-28", 2022, 364}, {nrf, "2024-01-01", 2023, 338}, {nrf, "2023-12-31", 2023, 337}, {nrf, "2025-02-01", 2024, 364},
		{broad, "2022-12-25", 2022, 364}, {broad, "2022-12-26", 2023, 1}, {broad, "2023-01-01", 2023, 7}, {broad, "2023-12-31", 2023, 371}, {broad, "2024-01-01", 2024, 1}, {broad, "2024-12-29", 2024, 364}, {broad, "2024-12-30", 2025, 1},
		{iso, "2019-12-29", 2019, 364}, {iso, "2019-12-30", 2020, 1}, {iso, "2021-01-03", 2020, 371}, {iso, "2021-01-04", 2021, 1}, {iso, "2022-01-02", 2021, 364}, {iso, "2022-01-03", 2022, 1},
		{last, "2023-08-25", 2023, 364}, {last, "2023-08-26", 2024, 1}, {last, "2023-08-31", 2024, 6}, {last, "2024-08-30", 2024, 371}, {last, "2024-08-31", 2025, 1},
		{near, "2024-01-01", 2022, 364}, {near, "2024-01-02", 2023, 1}, {near, "2023-12-31", 2022, 363}, {near, "2024-12-30", 2023, 364}, {near, "2024-12-31", 2024, 1},
		{month, "2023-09-30", 2023, 365}, {month, "2023-10-01", 2024, 1}, {month, "2024-02-29", 2024, 152}, {month, "2024-09-30", 2024, 366}, {month, "2024-12-31", 2025, 92},
		{cals[7], "2024-01-01", 2023, 1}, {cals[7], "2024-12-31", 2023, 366}, {cals[9], "2024-02-29", 2024, 366}, {cals[9], "2024-03-01", 2025, 1}, {cals[9], "2023-02-28", 2023, 365},
	} {
		day := dayOf(t, x.day)
		checkDay(t, x.c, day, x.y, day-x.nth+1)
	}
}

// TestOfEachDay steps through all days of one calendar, and of others through those of some years.
func TestOfEachDay(t *testing.T) {
	for i, c := range probe.Cals() {
		for day := range probe.End(c, 1600) + 1 {
			checkNone(t, c, day, api.ErrRange)
		}
		from := probe.End(c, 1600) + 1
		for y := 1601; y <= 9997; y++ {
			to := probe.End(c, y)
			for day := from; day <= to && (i == 2 || y%80 < 2 || y > 9990); day++ {
				checkDay(t, c, day, y, from)
			}
			from = to + 1
		}
		for day := from; day <= lastDay; day++ {
			checkNone(t, c, day, api.ErrRange)
		}
	}
}

// TestOfEachRule has the first and the last days of years of each rule, and those beside them.
func TestOfEachRule(t *testing.T) {
	probe.EachCal(func(c api.Cal) {
		for _, y := range []int{1601, 1602, 1603, 1699, 1700, 1701, 1899, 1900, 1901, 1999, 2000, 2001, 2004, 2005, 2006, 2007, 2008, 2009, 2010, 2011, 2399, 2400, 9000, 9995, 9996, 9997} {
			from, to := probe.End(c, y-1)+1, probe.End(c, y)
			for _, day := range []int{from, from + 1, from + 2, from + 3, from + 6, from + 7, from + 100, from + 200, from + 300, to - 7, to - 6, to - 3, to - 2, to - 1, to} {
				checkDay(t, c, day, y, from)
			}
		}
		first, last := probe.End(c, 1600)+1, probe.End(c, 9997)
		checkDay(t, c, first, 1601, first)
		checkDay(t, c, last, 9997, probe.End(c, 9996)+1)
		for _, day := range []int{0, 1, first - 8, first - 2, first - 1, last + 1, last + 2, last + 8, last + 360, lastDay - 1, lastDay} {
			checkNone(t, c, day, api.ErrRange)
		}
		for _, day := range noDays {
			checkNone(t, c, day, api.ErrDate)
		}
	})
}

// TestWrongCalendars has calendars that may not be, with days that are served, that are in no year, and that are none.
func TestWrongCalendars(t *testing.T) {
	for _, c := range probe.Wrong() {
		for _, day := range append(noDays, 0, 146156, 154900, lastDay) {
			checkNone(t, c, day, api.ErrArg)
		}
		if s, e := Bounds(c); s != (api.Span{}) || e != api.ErrArg {
			t.Errorf("Bounds(%+v): got %v, %d", c, s, e)
		}
	}
}

// P14.2

func TestBounds(t *testing.T) {
	c := probe.Cals()[4]
	c.First, c.Last = 2020, 2021
	if s, e := Bounds(c); s != (api.Span{From: dayOf(t, "2019-12-30"), To: dayOf(t, "2022-01-02")}) || e != api.OK {
		t.Errorf("got %v, %d", s, e)
	}
	c = probe.Cals()[2]
	if s, e := Bounds(c); s != (api.Span{From: dayOf(t, "2000-01-30"), To: dayOf(t, "2031-02-01")}) || e != api.OK {
		t.Errorf("got %v, %d", s, e)
	}
	probe.EachCal(func(c api.Cal) {
		for _, x := range [][2]int{{1602, 1602}, {1602, 2001}, {2000, 2000}, {2023, 2024}, {2000, 2399}, {9597, 9996}, {9996, 9996}} {
			c.First, c.Last = x[0], x[1]
			checkBounds(t, c)
		}
	})
}

// TestServed has the first and the last day that is served, and the days beside them, of one year and of 400.
func TestServed(t *testing.T) {
	probe.EachCal(func(c api.Cal) {
		for _, x := range [][2]int{{1602, 1602}, {1602, 2001}, {2000, 2000}, {2023, 2024}, {2000, 2399}, {9597, 9996}, {9996, 9996}} {
			c.First, c.Last = x[0], x[1]
			first, last := probe.End(c, c.First-1)+1, probe.End(c, c.Last)
			for _, y := range x {
				for _, day := range []int{probe.End(c, y-1) + 1, probe.End(c, y), probe.End(c, y) - 100} {
					if got, e := Served(c, day); got != y || e != api.OK {
						t.Fatalf("Served(%+v, %d): got %d, %d, want %d", c, day, got, e, y)
					}
				}
			}
			for _, day := range []int{first - 1, last + 1, first - 400, last + 400} {
				want := api.ErrRange
				if day < 0 || day > lastDay {
					want = api.ErrDate
				}
				if y, e := Served(c, day); y != 0 || e != want {
					t.Fatalf("Served(%+v, %d): got %d, %d, want %d", c, day, y, e, want)
				}
			}
		}
	})
}

// P14.3

// TestFollows holds days of some years, and of the first and the last one, against the day ahead: each is the next one of the same year, or the first one of the next year.
func TestFollows(t *testing.T) {
	for _, c := range probe.Cals() {
		for _, x := range [][2]int{{1601, 1660}, {1890, 1910}, {1990, 2030}, {9950, 9997}} {
			y, nth := x[0]-1, 0
			for day := probe.End(c, y) + 1; day <= probe.End(c, x[1]); day++ {
				nextY, e := Of(c, day)
				nextNth, f := Nth(c, day)
				if e != api.OK || f != api.OK || (nextY != y || nextNth != nth+1) && (nextY != y+1 || nextNth != 1) {
					t.Fatalf("%+v, %d: got day %d of %d behind day %d of %d, %d, %d", c, day, nextNth, nextY, nth, y, e, f)
				}
				y, nth = nextY, nextNth
			}
			if y != x[1] {
				t.Errorf("%+v: got %d last", c, y)
			}
		}
	}
}
