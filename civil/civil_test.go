package civil

import (
	"testing"

	"quarterday/api"
)

const (
	least   = -1 << 63
	most    = 1<<63 - 1
	lastDay = 3068036
)

// lengths are those of the months of a year without February 29.
var lengths = []int{31, 28, 31, 30, 31, 30, 31, 31, 30, 31, 30, 31}

// isLeap is asked apart from the program, which must not judge itself.
func isLeap(y int) bool {
	switch {
	case y%400 == 0:
		return true
	case y%100 == 0:
		return false
	}
	return y%4 == 0
}

func lengthOf(y, m int) int {
	if m == 2 && isLeap(y) {
		return 29
	}
	return lengths[m-1]
}

// eachDay hands on each day of the calendar, with its number and its weekday, by stepping from the first one on.
func eachDay(do func(day int, d api.Date, weekday int)) {
	day, weekday := 0, 6
	for y := 1600; y <= 9999; y++ {
		for m := 1; m <= 12; m++ {
			for d := 1; d <= lengthOf(y, m); d++ {
				do(day, api.Date{Y: y, M: m, D: d}, weekday)
				day++
				weekday = weekday%7 + 1
			}
		}
	}
}

// pairs are days, and their numbers and weekdays.
var pairs = []struct {
	day     int
	d       api.Date
	weekday int
}{
	{0, api.Date{Y: 1600, M: 1, D: 1}, 6},
	{1, api.Date{Y: 1600, M: 1, D: 2}, 7},
	{2, api.Date{Y: 1600, M: 1, D: 3}, 1},
	{30, api.Date{Y: 1600, M: 1, D: 31}, 1},
	{31, api.Date{Y: 1600, M: 2, D: 1}, 2},
	{59, api.Date{Y: 1600, M: 2, D: 29}, 2},
	{60, api.Date{Y: 1600, M: 3, D: 1}, 3},
	{365, api.Date{Y: 1600, M: 12, D: 31}, 7},
	{366, api.Date{Y: 1601, M: 1, D: 1}, 1},
	{36583, api.Date{Y: 1700, M: 2, D: 28}, 7},
	{36584, api.Date{Y: 1700, M: 3, D: 1}, 1},
	{146096, api.Date{Y: 1999, M: 12, D: 31}, 5},
	{146097, api.Date{Y: 2000, M: 1, D: 1}, 6},
	{146156, api.Date{Y: 2000, M: 2, D: 29}, 2},
	{146157, api.Date{Y: 2000, M: 3, D: 1}, 3},
	{154921, api.Date{Y: 2024, M: 2, D: 28}, 3},
	{154922, api.Date{Y: 2024, M: 2, D: 29}, 4},
	{154923, api.Date{Y: 2024, M: 3, D: 1}, 5},
	{lastDay - 1, api.Date{Y: 9999, M: 12, D: 30}, 4},
	{lastDay, api.Date{Y: 9999, M: 12, D: 31}, 5},
}

// noDays are numbers that no day has.
var noDays = []int{-1, lastDay + 1, -2, lastDay + 2, -366, -146097, -146156, lastDay + 366, 1 << 32, -1 << 32, least, least + 1, least + 6, most - 1, most}

// noYears are years that the calendar does not have.
var noYears = []int{1599, 10000, 1596, 1200, 10004, 10400, 0, 4, -4, -400, -2000, 2000 + 1<<32, least, least + 1, most - 3, most}

// noDates are days that the calendar does not have.
var noDates = []api.Date{
	{},
	{Y: 1599, M: 12, D: 31}, {Y: 10000, M: 1, D: 1}, {Y: -2000, M: 1, D: 1}, {Y: least, M: 1, D: 1}, {Y: most, M: 1, D: 1}, {Y: 2000 + 1<<32, M: 1, D: 1},
	{Y: 2000, M: 0, D: 1}, {Y: 2000, M: 13, D: 1}, {Y: 2000, M: -1, D: 1}, {Y: 2000, M: least, D: 1}, {Y: 2000, M: most, D: 1}, {Y: 2000, M: 1 + 1<<32, D: 1},
	{Y: 2000, M: 1, D: 0}, {Y: 2000, M: 1, D: 32}, {Y: 2000, M: 1, D: -1}, {Y: 2000, M: 1, D: least}, {Y: 2000, M: 1, D: most}, {Y: 2000, M: 1, D: 1 + 1<<32},
	{Y: 2000, M: 2, D: 30}, {Y: 2023, M: 2, D: 29}, {Y: 2024, M: 2, D: 30}, {Y: 1600, M: 2, D: 30}, {Y: 1700, M: 2, D: 29}, {Y: 2100, M: 2, D: 29}, {Y: 9900, M: 2, D: 29}, {Y: 9999, M: 2, D: 29},
	{Y: 1600, M: 1, D: 0}, {Y: 9999, M: 12, D: 32}, {Y: 9999, M: 13, D: 1}, {Y: 1600, M: 0, D: 31},
	{Y: least, M: least, D: least}, {Y: most, M: most, D: most}, {Y: 1599, M: 0, D: 0}, {Y: 10000, M: 13, D: 32},
}

// P5.1

func TestLeap(t *testing.T) {
	for _, x := range []struct {
		y    int
		leap bool
	}{
		{1600, true}, {1601, false}, {1602, false}, {1603, false}, {1604, true},
		{1700, false}, {1800, false}, {1900, false}, {2000, true}, {2100, false}, {2400, true},
		{2023, false}, {2024, true}, {2025, false}, {9600, true}, {9900, false}, {9996, true}, {9998, false}, {9999, false},
	} {
		if Leap(x.y) != x.leap {
			t.Errorf("Leap(%d): got %v", x.y, !x.leap)
		}
	}
	for y := 1600; y <= 9999; y++ {
		if Leap(y) != isLeap(y) {
			t.Errorf("Leap(%d): got %v", y, Leap(y))
		}
	}
	for _, y := range noYears {
		if Leap(y) {
			t.Errorf("Leap(%d): got true", y)
		}
	}
}

func TestLength(t *testing.T) {
	for y := 1600; y <= 9999; y++ {
		for m := 1; m <= 12; m++ {
			if n, e := Length(y, m); n != lengthOf(y, m) || e != api.OK {
				t.Errorf("Length(%d, %d): got %d, %d", y, m, n, e)
			}
		}
	}
	for _, x := range [][3]int{{2023, 1, 31}, {2023, 2, 28}, {2024, 2, 29}, {1900, 2, 28}, {2000, 2, 29}, {1600, 2, 29}, {2024, 3, 31}, {2023, 4, 30}, {2023, 12, 31}, {2024, 12, 31}, {9999, 12, 31}} {
		if n, e := Length(x[0], x[1]); n != x[2] || e != api.OK {
			t.Errorf("Length(%d, %d): got %d, %d, want %d", x[0], x[1], n, e, x[2])
		}
	}
}

func TestLengthRefuses(t *testing.T) {
	check := func(y, m int) {
		if n, e := Length(y, m); n != 0 || e != api.ErrDate {
			t.Errorf("Length(%d, %d): got %d, %d, want error %d", y, m, n, e, api.ErrDate)
		}
	}
	for _, m := range []int{0, 13, -1, 14, -2, 1 + 1<<32, least, least + 1, most - 1, most} {
		for _, y := range []int{1600, 2000, 2023, 9999} {
			check(y, m)
		}
		for _, y := range noYears {
			check(y, m)
		}
	}
	for _, y := range noYears {
		for m := 1; m <= 12; m++ {
			check(y, m)
		}
	}
}

func TestCheck(t *testing.T) {
	for _, x := range pairs {
		if e := Check(x.d); e != api.OK {
			t.Errorf("Check(%v): got %d", x.d, e)
		}
	}
	for _, d := range noDates {
		if e := Check(d); e != api.ErrDate {
			t.Errorf("Check(%v): got %d, want %d", d, e, api.ErrDate)
		}
	}
}

// TestCheckAroundMonths goes through each month's days, and those that stand beside them.
func TestCheckAroundMonths(t *testing.T) {
	for _, y := range []int{1599, 1600, 1601, 1604, 1700, 1999, 2000, 2023, 2024, 2100, 9996, 9999, 10000} {
		for m := -1; m <= 14; m++ {
			for d := -1; d <= 33; d++ {
				want := api.ErrDate
				if y >= 1600 && y <= 9999 && m >= 1 && m <= 12 && d >= 1 && d <= lengthOf(y, m) {
					want = api.OK
				}
				if e := Check(api.Date{Y: y, M: m, D: d}); e != want {
					t.Errorf("Check(%d, %d, %d): got %d, want %d", y, m, d, e, want)
				}
			}
		}
	}
}

// P5.2 and P5.3

func TestDayAndOf(t *testing.T) {
	for _, x := range pairs {
		if n, e := Day(x.d); n != x.day || e != api.OK {
			t.Errorf("Day(%v): got %d, %d, want %d", x.d, n, e, x.day)
		}
		if d, e := Of(x.day); d != x.d || e != api.OK {
			t.Errorf("Of(%d): got %v, %d, want %v", x.day, d, e, x.d)
		}
	}
}

func TestDayRefuses(t *testing.T) {
	for _, d := range noDates {
		if n, e := Day(d); n != 0 || e != api.ErrDate {
			t.Errorf("Day(%v): got %d, %d, want error %d", d, n, e, api.ErrDate)
		}
	}
}

func TestNumbersOfNoDay(t *testing.T) {
	for _, n := range noDays {
		if d, e := Of(n); d != (api.Date{}) || e != api.ErrDate {
			t.Errorf("Of(%d): got %v, %d, want error %d", n, d, e, api.ErrDate)
		}
		if weekday, e := Weekday(n); weekday != 0 || e != api.ErrDate {
			t.Errorf("Weekday(%d): got %d, %d, want error %d", n, weekday, e, api.ErrDate)
		}
	}
}

func TestWeekday(t *testing.T) {
	for _, x := range pairs {
		if n, e := Weekday(x.day); n != x.weekday || e != api.OK {
			t.Errorf("Weekday(%d): got %d, %d, want %d", x.day, n, e, x.weekday)
		}
	}
}

func TestAdd(t *testing.T) {
	for _, x := range []struct{ day, n, to int }{
		{0, 0, 0}, {5, -5, 0}, {5, -4, 1}, {5, 3, 8}, {100, 7, 107}, {146156, -365, 145791},
		{0, 1, 1}, {1, -1, 0}, {0, lastDay, lastDay}, {lastDay, -lastDay, 0}, {lastDay, 0, lastDay},
		{lastDay, -1, lastDay - 1}, {lastDay - 1, 1, lastDay}, {146156, 2921880, lastDay}, {146156, -146156, 0},
	} {
		if day, e := Add(x.day, x.n); day != x.to || e != api.OK {
			t.Errorf("Add(%d, %d): got %d, %d, want %d", x.day, x.n, day, e, x.to)
		}
	}
}

func TestAddRefuses(t *testing.T) {
	check := func(day, n int) {
		if to, e := Add(day, n); to != 0 || e != api.ErrDate {
			t.Errorf("Add(%d, %d): got %d, %d, want error %d", day, n, to, e, api.ErrDate)
		}
	}
	for _, day := range []int{0, 1, 146156, lastDay - 1, lastDay} {
		for _, n := range []int{-day - 1, lastDay - day + 1, -day - 2, lastDay - day + 2, least, least + 1, least + lastDay, most - lastDay, most - 1, most} {
			check(day, n)
		}
	}
	// From what is no day none is reached, also where the sum is one.
	for _, day := range noDays {
		for _, n := range []int{0, 1, -1, 7, lastDay, -lastDay, -day, -day - 1, least, most} {
			check(day, n)
		}
	}
}

// P5.4

func TestEachDay(t *testing.T) {
	many := 0
	eachDay(func(day int, d api.Date, weekday int) {
		many++
		n, e := Day(d)
		back, f := Of(day)
		if n != day || back != d || e != api.OK || f != api.OK || Check(d) != api.OK {
			t.Fatalf("%d, %v: got %d, %d and %v, %d", day, d, n, e, back, f)
		}
		if n, e := Weekday(day); n != weekday || e != api.OK {
			t.Fatalf("Weekday(%d): got %d, %d, want %d", day, n, e, weekday)
		}
	})
	if many != api.Days {
		t.Errorf("stepped through %d days", many)
	}
}

// TestMonthsFollow asks for the day behind each month's last one.
func TestMonthsFollow(t *testing.T) {
	for y := 1600; y <= 9999; y++ {
		for m := 1; m <= 12; m++ {
			length, _ := Length(y, m)
			last, e := Day(api.Date{Y: y, M: m, D: length})
			if e != api.OK {
				t.Fatalf("%d, %d: got error %d", y, m, e)
			}
			want := api.Date{Y: y, M: m + 1, D: 1}
			if m == 12 {
				want = api.Date{Y: y + 1, M: 1, D: 1}
			}
			next, e := Add(last, 1)
			if y == 9999 && m == 12 {
				if next != 0 || e != api.ErrDate {
					t.Errorf("behind the last day: got %d, %d", next, e)
				}
				continue
			}
			if d, f := Of(next); d != want || e != api.OK || f != api.OK {
				t.Errorf("behind %d, %d: got %v, %d, %d, want %v", y, m, d, e, f, want)
			}
		}
	}
}

// TestAddSteps reaches each day of a stretch from another one, and back.
func TestAddSteps(t *testing.T) {
	for _, from := range []int{0, 400, 146156, lastDay - 800, lastDay} {
		for to := max(0, from-800); to <= min(lastDay, from+800); to++ {
			if day, e := Add(from, to-from); day != to || e != api.OK {
				t.Errorf("Add(%d, %d): got %d, %d", from, to-from, day, e)
			}
			if day, e := Add(to, from-to); day != from || e != api.OK {
				t.Errorf("Add(%d, %d): got %d, %d", to, from-to, day, e)
			}
		}
	}
}
