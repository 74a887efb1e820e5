package week

import (
	"testing"

	"quarterday/api"
	"quarterday/civil"
)

const (
	least   = -1 << 63
	most    = 1<<63 - 1
	lastDay = 3068036
	// seventh is what 7 times goes around to 1.
	seventh = 7905747460161236407
)

func dayOf(t *testing.T, y, m, d int) int {
	t.Helper()
	n, e := civil.Day(api.Date{Y: y, M: m, D: d})
	if e != api.OK {
		t.Fatalf("%d, %d, %d: got error %d", y, m, d, e)
	}
	return n
}

// eachDay hands on each day of the calendar with its ISO week, by stepping from the first one on: at each Monday the week's Thursday tells whether another year has begun.
func eachDay(t *testing.T, do func(day int, x api.Iso)) {
	t.Helper()
	x := api.Iso{Y: 1599, W: 52, D: 6}
	for day := 0; day <= lastDay; day++ {
		do(day, x)
		if x.D++; x.D < 8 {
			continue
		}
		thursday, e := civil.Of(day + 4)
		if e != api.OK {
			t.Fatalf("%d: got error %d", day+4, e)
		}
		x.D, x.W = 1, x.W+1
		if thursday.Y != x.Y {
			x.Y, x.W = thursday.Y, 1
		}
	}
}

// weekdayOf is asked apart from the program, and knows days that stand beside the calendar, too.
func weekdayOf(day int) int { return (day+5)%7 + 1 }

// pairs are days, and what Iso tells of them.
var pairs = []struct {
	y, m, d int
	x       api.Iso
}{
	{1600, 1, 1, api.Iso{Y: 1599, W: 52, D: 6}},
	{1600, 1, 2, api.Iso{Y: 1599, W: 52, D: 7}},
	{1600, 1, 3, api.Iso{Y: 1600, W: 1, D: 1}},
	{1600, 1, 9, api.Iso{Y: 1600, W: 1, D: 7}},
	{1600, 1, 10, api.Iso{Y: 1600, W: 2, D: 1}},
	{1600, 12, 31, api.Iso{Y: 1600, W: 52, D: 7}},
	{1601, 1, 1, api.Iso{Y: 1601, W: 1, D: 1}},
	{2000, 1, 2, api.Iso{Y: 1999, W: 52, D: 7}},
	{2000, 1, 3, api.Iso{Y: 2000, W: 1, D: 1}},
	{2000, 2, 29, api.Iso{Y: 2000, W: 9, D: 2}},
	{2000, 12, 31, api.Iso{Y: 2000, W: 52, D: 7}},
	{2001, 1, 1, api.Iso{Y: 2001, W: 1, D: 1}},
	{2004, 12, 31, api.Iso{Y: 2004, W: 53, D: 5}},
	{2005, 1, 2, api.Iso{Y: 2004, W: 53, D: 7}},
	{2005, 1, 3, api.Iso{Y: 2005, W: 1, D: 1}},
	{2008, 9, 26, api.Iso{Y: 2008, W: 39, D: 5}},
	{2008, 12, 28, api.Iso{Y: 2008, W: 52, D: 7}},
	{2008, 12, 29, api.Iso{Y: 2009, W: 1, D: 1}},
	{2009, 12, 31, api.Iso{Y: 2009, W: 53, D: 4}},
	{2010, 1, 3, api.Iso{Y: 2009, W: 53, D: 7}},
	{2010, 1, 4, api.Iso{Y: 2010, W: 1, D: 1}},
	{2016, 1, 1, api.Iso{Y: 2015, W: 53, D: 5}},
	{2020, 12, 31, api.Iso{Y: 2020, W: 53, D: 4}},
	{2021, 1, 3, api.Iso{Y: 2020, W: 53, D: 7}},
	{2021, 1, 4, api.Iso{Y: 2021, W: 1, D: 1}},
	{2024, 12, 29, api.Iso{Y: 2024, W: 52, D: 7}},
	{2024, 12, 30, api.Iso{Y: 2025, W: 1, D: 1}},
	{9998, 12, 31, api.Iso{Y: 9998, W: 53, D: 4}},
	{9999, 1, 3, api.Iso{Y: 9998, W: 53, D: 7}},
	{9999, 1, 4, api.Iso{Y: 9999, W: 1, D: 1}},
	{9999, 12, 26, api.Iso{Y: 9999, W: 51, D: 7}},
	{9999, 12, 27, api.Iso{Y: 9999, W: 52, D: 1}},
	{9999, 12, 31, api.Iso{Y: 9999, W: 52, D: 5}},
}

// noWeeks are what Iso tells of no day.
var noWeeks = []api.Iso{
	{},
	// ahead of the calendar, and behind it
	{Y: 1599, W: 52, D: 5}, {Y: 1599, W: 52, D: 1}, {Y: 1599, W: 51, D: 6}, {Y: 1599, W: 51, D: 7}, {Y: 1599, W: 1, D: 1}, {Y: 1599, W: 53, D: 1}, {Y: 1599, W: 53, D: 6},
	{Y: 1598, W: 52, D: 6}, {Y: 1598, W: 53, D: 7}, {Y: 1199, W: 52, D: 6}, {Y: 1999, W: 52, D: 8}, {Y: 9999, W: 52, D: 6}, {Y: 9999, W: 52, D: 7}, {Y: 9999, W: 53, D: 1}, {Y: 9999, W: 53, D: 5}, {Y: 10000, W: 1, D: 1}, {Y: 10000, W: 52, D: 5}, {Y: 10399, W: 52, D: 5},
	{Y: 0, W: 1, D: 1}, {Y: -2024, W: 1, D: 1}, {Y: 2024 + 1<<32, W: 1, D: 1}, {Y: 2024 - 1<<32, W: 1, D: 1},
	// weeks that a year has not
	{Y: 2024, W: 0, D: 1}, {Y: 2024, W: 53, D: 1}, {Y: 2024, W: 53, D: 7}, {Y: 2024, W: 54, D: 1}, {Y: 2024, W: -1, D: 1}, {Y: 2024, W: 1 + 1<<32, D: 1},
	{Y: 2020, W: 0, D: 7}, {Y: 2020, W: 54, D: 1}, {Y: 2021, W: 53, D: 1}, {Y: 2021, W: 0, D: 7}, {Y: 1600, W: 0, D: 6}, {Y: 1600, W: 0, D: 7}, {Y: 1600, W: 53, D: 1},
	// weekdays that there are not, also where a day would stand there by the sum of all
	{Y: 2024, W: 1, D: 0}, {Y: 2024, W: 1, D: 8}, {Y: 2024, W: 2, D: 0}, {Y: 2024, W: 2, D: -6}, {Y: 2024, W: 0, D: 8}, {Y: 2024, W: 54, D: -6}, {Y: 2024, W: 1, D: 1 + 1<<32}, {Y: 1600, W: 1, D: 0}, {Y: 1600, W: 1, D: -1}, {Y: 9999, W: 51, D: 12},
	// numbers with which sums go around
	{Y: 2024, W: least, D: 1}, {Y: 2024, W: most, D: 1}, {Y: 2024, W: 1, D: least}, {Y: 2024, W: 1, D: most}, {Y: 2024, W: least, D: least}, {Y: 2024, W: most, D: most}, {Y: 2024, W: least, D: most}, {Y: 2024, W: most, D: least},
	{Y: 2024, W: 1 + seventh, D: 1}, {Y: 2024, W: 1 + seventh, D: 0}, {Y: 2024, W: 1 - seventh, D: 2}, {Y: 2024, W: 1 + 1<<62, D: 1 + 1<<62}, {Y: 2024, W: 1 - 1<<62, D: 1 - 1<<62}, {Y: 2024, W: least + 1, D: least + 1},
	{Y: least, W: 1, D: 1}, {Y: least + 1, W: 52, D: 6}, {Y: most, W: 1, D: 1}, {Y: most - 1, W: 52, D: 5}, {Y: least, W: least, D: least}, {Y: most, W: most, D: most}, {Y: 1599, W: least, D: least}, {Y: 10000, W: most, D: most},
}

// noYears are years that the calendar does not have.
var noYears = []int{1599, 10000, 1598, 10001, 1200, 10400, 0, 1, -1, -2000, 2000 + 1<<32, 2000 - 1<<32, least, least + 1, most - 1, most}

// P6.1

func TestIsoAndDay(t *testing.T) {
	for _, p := range pairs {
		day := dayOf(t, p.y, p.m, p.d)
		if x, e := Iso(day); x != p.x || e != api.OK {
			t.Errorf("Iso(%d): got %v, %d, want %v", day, x, e, p.x)
		}
		if n, e := Day(p.x); n != day || e != api.OK {
			t.Errorf("Day(%v): got %d, %d, want %d", p.x, n, e, day)
		}
	}
}

// TestFirstAndLastDays asks by number for the days at the calendar's edges.
func TestFirstAndLastDays(t *testing.T) {
	for _, p := range []struct {
		day int
		x   api.Iso
	}{
		{0, api.Iso{Y: 1599, W: 52, D: 6}}, {1, api.Iso{Y: 1599, W: 52, D: 7}}, {2, api.Iso{Y: 1600, W: 1, D: 1}}, {3, api.Iso{Y: 1600, W: 1, D: 2}},
		{8, api.Iso{Y: 1600, W: 1, D: 7}}, {9, api.Iso{Y: 1600, W: 2, D: 1}}, {lastDay - 1, api.Iso{Y: 9999, W: 52, D: 4}}, {lastDay, api.Iso{Y: 9999, W: 52, D: 5}},
	} {
		if x, e := Iso(p.day); x != p.x || e != api.OK {
			t.Errorf("Iso(%d): got %v, %d, want %v", p.day, x, e, p.x)
		}
		if n, e := Day(p.x); n != p.day || e != api.OK {
			t.Errorf("Day(%v): got %d, %d, want %d", p.x, n, e, p.day)
		}
	}
}

func TestIsoOfEachDay(t *testing.T) {
	eachDay(t, func(day int, want api.Iso) {
		if x, e := Iso(day); x != want || e != api.OK {
			t.Fatalf("Iso(%d): got %v, %d, want %v", day, x, e, want)
		}
		if n, e := Day(want); n != day || e != api.OK {
			t.Fatalf("Day(%v): got %d, %d, want %d", want, n, e, day)
		}
	})
}

func TestIsoRefuses(t *testing.T) {
	for _, day := range []int{-1, lastDay + 1, -2, -3, -7, lastDay + 2, lastDay + 7, -146097, lastDay + 146097, 1 << 32, -1 << 32, least, least + 1, least + 6, most - 6, most - 1, most} {
		if x, e := Iso(day); x != (api.Iso{}) || e != api.ErrDate {
			t.Errorf("Iso(%d): got %v, %d, want error %d", day, x, e, api.ErrDate)
		}
	}
}

func TestDayRefuses(t *testing.T) {
	for _, x := range noWeeks {
		if n, e := Day(x); n != 0 || e != api.ErrDate {
			t.Errorf("Day(%v): got %d, %d, want error %d", x, n, e, api.ErrDate)
		}
	}
}

// TestDayAroundWeeks goes through all weeks of some years, their weekdays, and those that stand beside them.
func TestDayAroundWeeks(t *testing.T) {
	years := []int{1598, 1599, 1600, 1601, 1602, 1603, 1604, 1605, 1608, 1999, 2000, 2004, 2009, 2015, 2020, 2021, 2024, 2025, 2026, 9996, 9997, 9998, 9999, 10000}
	asked := map[int]bool{}
	for _, y := range years {
		asked[y] = true
	}
	days := map[api.Iso]int{}
	eachDay(t, func(day int, x api.Iso) {
		if asked[x.Y] {
			days[x] = day
		}
	})
	for _, y := range years {
		for w := -2; w <= 56; w++ {
			for d := -8; d <= 16; d++ {
				x := api.Iso{Y: y, W: w, D: d}
				want, e := days[x], api.OK
				if _, ok := days[x]; !ok {
					e = api.ErrDate
				}
				if n, f := Day(x); n != want || f != e {
					t.Errorf("Day(%v): got %d, %d, want %d, %d", x, n, f, want, e)
				}
			}
		}
	}
}

// P6.2

func TestMany(t *testing.T) {
	for _, x := range []struct{ y, n int }{
		{1600, 52}, {1601, 52}, {1602, 52}, {1603, 52}, {1604, 53}, {1605, 52}, {1998, 53}, {1999, 52}, {2000, 52}, {2004, 53}, {2008, 52}, {2009, 53}, {2014, 52}, {2015, 53}, {2016, 52},
		{2020, 53}, {2021, 52}, {2024, 52}, {2026, 53}, {2032, 53}, {9997, 52}, {9998, 53}, {9999, 52},
	} {
		if n, e := Many(x.y); n != x.n || e != api.OK {
			t.Errorf("Many(%d): got %d, %d, want %d", x.y, n, e, x.n)
		}
	}
}

func TestManyOfEachYear(t *testing.T) {
	weeks := map[int]int{}
	eachDay(t, func(_ int, x api.Iso) { weeks[x.Y] = x.W })
	for y := 1600; y <= 9999; y++ {
		if n, e := Many(y); n != weeks[y] || n != 52 && n != 53 || e != api.OK {
			t.Errorf("Many(%d): got %d, %d, want %d", y, n, e, weeks[y])
		}
	}
}

func TestManyRefuses(t *testing.T) {
	for _, y := range noYears {
		if n, e := Many(y); n != 0 || e != api.ErrDate {
			t.Errorf("Many(%d): got %d, %d, want error %d", y, n, e, api.ErrDate)
		}
	}
}

// P6.3

// TestLastAndNearByDate asks for each weekday of months of 28, 29, 30 and 31 days: the days of a month that Last tells, and how far from the month's end the one is that Near tells.
func TestLastAndNearByDate(t *testing.T) {
	for _, x := range []struct {
		y, m, end int
		last      [7]int
		near      [7]int
	}{
		{2023, 2, 28, [7]int{27, 28, 22, 23, 24, 25, 26}, [7]int{-1, 0, 1, 2, 3, -3, -2}},
		{2024, 2, 29, [7]int{26, 27, 28, 29, 23, 24, 25}, [7]int{-3, -2, -1, 0, 1, 2, 3}},
		{2023, 4, 30, [7]int{24, 25, 26, 27, 28, 29, 30}, [7]int{1, 2, 3, -3, -2, -1, 0}},
		{2024, 1, 31, [7]int{29, 30, 31, 25, 26, 27, 28}, [7]int{-2, -1, 0, 1, 2, 3, -3}},
		{2023, 12, 31, [7]int{25, 26, 27, 28, 29, 30, 31}, [7]int{1, 2, 3, -3, -2, -1, 0}},
		{1600, 1, 31, [7]int{31, 25, 26, 27, 28, 29, 30}, [7]int{0, 1, 2, 3, -3, -2, -1}},
	} {
		for i := range 7 {
			if n, e := Last(x.y, x.m, i+1); n != dayOf(t, x.y, x.m, x.last[i]) || e != api.OK {
				t.Errorf("Last(%d, %d, %d): got %d, %d, want day %d", x.y, x.m, i+1, n, e, x.last[i])
			}
			if n, e := Near(x.y, x.m, i+1); n != dayOf(t, x.y, x.m, x.end)+x.near[i] || e != api.OK {
				t.Errorf("Near(%d, %d, %d): got %d, %d, want %d from the end", x.y, x.m, i+1, n, e, x.near[i])
			}
		}
	}
}

// TestAtTheEdges asks for the months at the calendar's edges: of January 1600 there are all days, of December 9999, which ends on a Friday, not those behind it.
func TestAtTheEdges(t *testing.T) {
	for i, x := range []struct {
		m, last, near int
		e             api.Errno
	}{
		{1, lastDay - 4, 0, api.ErrDate}, {2, lastDay - 3, lastDay - 3, api.OK}, {3, lastDay - 2, lastDay - 2, api.OK}, {4, lastDay - 1, lastDay - 1, api.OK},
		{5, lastDay, lastDay, api.OK}, {6, lastDay - 6, 0, api.ErrDate}, {7, lastDay - 5, 0, api.ErrDate},
	} {
		if n, e := Last(9999, 12, i+1); n != x.last || e != api.OK {
			t.Errorf("Last(9999, 12, %d): got %d, %d, want %d", i+1, n, e, x.last)
		}
		if n, e := Near(9999, 12, i+1); n != x.near || e != x.e {
			t.Errorf("Near(9999, 12, %d): got %d, %d, want %d, %d", i+1, n, e, x.near, x.e)
		}
	}
	for i, x := range []struct{ last, near int }{{30, 30}, {24, 31}, {25, 32}, {26, 33}, {27, 27}, {28, 28}, {29, 29}} {
		if n, e := Last(1600, 1, i+1); n != x.last || e != api.OK {
			t.Errorf("Last(1600, 1, %d): got %d, %d, want %d", i+1, n, e, x.last)
		}
		if n, e := Near(1600, 1, i+1); n != x.near || e != api.OK {
			t.Errorf("Near(1600, 1, %d): got %d, %d, want %d", i+1, n, e, x.near)
		}
	}
}

// TestYearEnds asks for the ends of years of retailers and others.
func TestYearEnds(t *testing.T) {
	for _, x := range []struct {
		how                 func(y, m, wd int) (int, api.Errno)
		y, m, wd            int
		wantY, wantM, wantD int
	}{
		{Near, 2023, 1, 6, 2023, 1, 28}, {Near, 2024, 1, 6, 2024, 2, 3}, {Last, 2024, 1, 6, 2024, 1, 27},
		{Near, 2024, 12, 7, 2024, 12, 29}, {Near, 2020, 12, 7, 2021, 1, 3}, {Last, 2020, 12, 7, 2020, 12, 27}, {Last, 2024, 8, 6, 2024, 8, 31}, {Near, 2024, 2, 7, 2024, 3, 3},
	} {
		if n, e := x.how(x.y, x.m, x.wd); n != dayOf(t, x.wantY, x.wantM, x.wantD) || e != api.OK {
			t.Errorf("%d, %d, %d: got %d, %d, want %d, %d, %d", x.y, x.m, x.wd, n, e, x.wantY, x.wantM, x.wantD)
		}
	}
}

// TestLastAndNearOfEachMonth looks for the weekdays of all months day by day.
func TestLastAndNearOfEachMonth(t *testing.T) {
	for y := 1600; y <= 9999; y++ {
		for m := 1; m <= 12; m++ {
			length, _ := civil.Length(y, m)
			end := dayOf(t, y, m, length)
			for wd := 1; wd <= 7; wd++ {
				last := end
				for weekdayOf(last) != wd {
					last--
				}
				if n, e := Last(y, m, wd); n != last || e != api.OK {
					t.Fatalf("Last(%d, %d, %d): got %d, %d, want %d", y, m, wd, n, e, last)
				}
				near := end - 3
				for weekdayOf(near) != wd {
					near++
				}
				want := api.OK
				if near > lastDay {
					near, want = 0, api.ErrDate
				}
				if n, e := Near(y, m, wd); n != near || e != want {
					t.Fatalf("Near(%d, %d, %d): got %d, %d, want %d, %d", y, m, wd, n, e, near, want)
				}
			}
		}
	}
}

// TestLastAndNearRefuse holds both calls against wrong months and weekdays: a month that is wrong is told, whatever the weekday, and a weekday that is wrong ahead of a day that is none.
func TestLastAndNearRefuse(t *testing.T) {
	wrong := []int{0, 8, -1, 9, -6, 14, 1 + 1<<32, 1 - 1<<32, least, least + 1, least + 6, most - 6, most - 1, most}
	months := []int{0, 13, -1, 14, -11, 1 + 1<<32, 1 - 1<<32, least, least + 1, most - 1, most}
	check := func(y, m, wd int, want api.Errno) {
		t.Helper()
		if n, e := Last(y, m, wd); n != 0 || e != want {
			t.Errorf("Last(%d, %d, %d): got %d, %d, want error %d", y, m, wd, n, e, want)
		}
		if n, e := Near(y, m, wd); n != 0 || e != want {
			t.Errorf("Near(%d, %d, %d): got %d, %d, want error %d", y, m, wd, n, e, want)
		}
	}
	for _, wd := range wrong {
		for _, x := range [][2]int{{2024, 1}, {2024, 2}, {2023, 2}, {2023, 4}, {1600, 1}, {9999, 12}} {
			check(x[0], x[1], wd, api.ErrArg)
		}
	}
	for _, wd := range append(wrong, 1, 2, 3, 4, 5, 6, 7) {
		for _, m := range months {
			for _, y := range append(noYears, 1600, 2024, 9999) {
				check(y, m, wd, api.ErrDate)
			}
		}
		for _, y := range noYears {
			for m := 1; m <= 12; m++ {
				check(y, m, wd, api.ErrDate)
			}
		}
	}
}

// P6.4

// TestWeeksAreWhole asks for the seven days of each week, and for January 4 of each year.
func TestWeeksAreWhole(t *testing.T) {
	for monday := 2; monday+6 <= lastDay; monday += 7 {
		first, e := Iso(monday)
		if first.D != 1 || e != api.OK {
			t.Fatalf("Iso(%d): got %v, %d", monday, first, e)
		}
		for i := range 7 {
			if x, e := Iso(monday + i); x != (api.Iso{Y: first.Y, W: first.W, D: i + 1}) || e != api.OK {
				t.Fatalf("Iso(%d): got %v, %d, of the week of %v", monday+i, x, e, first)
			}
		}
	}
	for y := 1600; y <= 9999; y++ {
		if x, e := Iso(dayOf(t, y, 1, 4)); x.Y != y || x.W != 1 || e != api.OK {
			t.Errorf("January 4 of %d: got %v, %d", y, x, e)
		}
	}
}
