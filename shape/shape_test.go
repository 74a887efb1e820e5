package shape

import (
	"slices"
	"testing"

	"quarterday/api"
	"quarterday/probe"
	"quarterday/stamp"
)

const (
	least = -1 << 63
	most  = 1<<63 - 1
)

// cutBy is a calendar whose years end on the last Saturday of September, and are cut by a shape.
func cutBy(shape int, pat [3]int, cycle, extra int) api.Cal {
	return probe.Whole(api.Cal{Kind: api.LastR, Day: 6, Month: 9, Shape: shape, Pat: pat, Cycle: cycle, Extra: extra})
}

// by454 is one of a pattern, fours one of thirteen periods, pay one of pay cycles, monthly one of months.
func by454(extra int) api.Cal { return cutBy(api.PatS, [3]int{4, 5, 4}, 0, extra) }

func fours(extra int) api.Cal { return cutBy(api.FourS, [3]int{}, 0, extra) }

func pay(cycle, extra int) api.Cal { return cutBy(api.CycleS, [3]int{}, cycle, extra) }

func monthly(month, shift int) api.Cal {
	return probe.Whole(api.Cal{Kind: api.MonthR, Month: month, Shift: shift, Shape: api.MonthS})
}

func broad() api.Cal { return probe.Cals()[3] }

// of are numbers of weeks: as many of one as are said, but one more in a period, if it is not 0.
func of(many, weeks, extra int) []int {
	l := slices.Repeat([]int{weeks}, many)
	if extra > 0 {
		l[extra-1]++
	}
	return l
}

// checkYear holds all that is told of a year against what each period should have of weeks, and on which day it should end.
func checkYear(t *testing.T, c api.Cal, y int, weeks, ends []int) {
	t.Helper()
	if l, e := Weeks(c, y); !slices.Equal(l, weeks) || e != api.OK {
		t.Fatalf("Weeks(%+v, %d): got %v, %d, want %v", c, y, l, e, weeks)
	}
	if l, e := Ends(c, y); !slices.Equal(l, ends) || e != api.OK {
		t.Fatalf("Ends(%+v, %d): got %v, %d, want %v", c, y, l, e, ends)
	}
	added, want := 0, api.OK
	if c.Kind == api.MonthR {
		want = api.ErrArg
	} else if all := sum(weeks); all == 53 {
		added = sum(weeks[:c.Extra])
	}
	if n, e := Added(c, y); n != added || e != want {
		t.Fatalf("Added(%+v, %d): got %d, %d, want %d, %d", c, y, n, e, added, want)
	}
}

func sum(l []int) int {
	all := 0
	for _, n := range l {
		all += n
	}
	return all
}

// P15.1

func TestWeeks(t *testing.T) {
	for _, x := range []struct {
		c     api.Cal
		y     int
		weeks []int
	}{
		// 2023 has 53 weeks, 2024 has 52
		{by454(12), 2024, []int{4, 5, 4, 4, 5, 4, 4, 5, 4, 4, 5, 4}}, {by454(12), 2023, []int{4, 5, 4, 4, 5, 4, 4, 5, 4, 4, 5, 5}}, {by454(1), 2023, []int{5, 5, 4, 4, 5, 4, 4, 5, 4, 4, 5, 4}}, {by454(8), 2023, []int{4, 5, 4, 4, 5, 4, 4, 6, 4, 4, 5, 4}}, {by454(8), 2024, []int{4, 5, 4, 4, 5, 4, 4, 5, 4, 4, 5, 4}},
		{cutBy(1, [3]int{4, 4, 5}, 0, 12), 2023, []int{4, 4, 5, 4, 4, 5, 4, 4, 5, 4, 4, 6}}, {cutBy(1, [3]int{4, 4, 5}, 0, 7), 2024, []int{4, 4, 5, 4, 4, 5, 4, 4, 5, 4, 4, 5}}, {cutBy(1, [3]int{5, 4, 4}, 0, 3), 2023, []int{5, 4, 5, 5, 4, 4, 5, 4, 4, 5, 4, 4}}, {cutBy(1, [3]int{5, 4, 4}, 0, 3), 2022, []int{5, 4, 4, 5, 4, 4, 5, 4, 4, 5, 4, 4}},
		{fours(13), 2023, of(13, 4, 13)}, {fours(1), 2023, of(13, 4, 1)}, {fours(7), 2023, of(13, 4, 7)}, {fours(7), 2024, of(13, 4, 0)},
		{pay(4, 13), 2023, of(13, 4, 13)}, {pay(4, 2), 2023, of(13, 4, 2)}, {pay(4, 2), 2024, of(13, 4, 0)}, {pay(2, 26), 2023, of(26, 2, 26)}, {pay(2, 1), 2023, of(26, 2, 1)}, {pay(2, 1), 2024, of(26, 2, 0)}, {pay(1, 52), 2023, of(52, 1, 52)}, {pay(1, 26), 2023, of(52, 1, 26)}, {pay(1, 1), 2023, of(52, 1, 1)}, {pay(1, 1), 2024, of(52, 1, 0)},
		{broad(), 2024, []int{4, 4, 5, 4, 4, 5, 4, 4, 5, 4, 4, 5}}, {broad(), 2023, []int{5, 4, 4, 5, 4, 4, 5, 4, 4, 5, 4, 5}}, {broad(), 2022, []int{5, 4, 4, 4, 5, 4, 5, 4, 4, 5, 4, 4}},
		{monthly(9, 0), 2023, []int{5, 5, 5, 5, 4, 5, 5, 5, 5, 5, 5, 5}}, {monthly(9, 0), 2024, []int{5, 5, 5, 5, 5, 5, 5, 5, 5, 5, 5, 5}}, {monthly(12, 0), 2023, []int{5, 4, 5, 5, 5, 5, 5, 5, 5, 5, 5, 5}}, {monthly(2, 0), 2023, []int{5, 5, 5, 5, 5, 5, 5, 5, 5, 5, 5, 4}}, {monthly(1, 1), 2023, []int{4, 5, 5, 5, 5, 5, 5, 5, 5, 5, 5, 5}},
	} {
		if l, e := Weeks(x.c, x.y); !slices.Equal(l, x.weeks) || e != api.OK {
			t.Errorf("Weeks(%+v, %d): got %v, %d, want %v", x.c, x.y, l, e, x.weeks)
		}
	}
}

func TestEnds(t *testing.T) {
	nrf := probe.Cals()[2]
	for _, x := range []struct {
		c    api.Cal
		y    int
		days []string
	}{
		{nrf, 2023, []string{"2023-02-25", "2023-04-01", "2023-04-29", "2023-05-27", "2023-07-01", "2023-07-29", "2023-08-26", "2023-09-30", "2023-10-28", "2023-11-25", "2023-12-30", "2024-02-03"}},
		{nrf, 2024, []string{"2024-03-02", "2024-04-06", "2024-05-04", "2024-06-01", "2024-07-06", "2024-08-03", "2024-08-31", "2024-10-05", "2024-11-02", "2024-11-30", "2025-01-04", "2025-02-01"}},
		{broad(), 2024, []string{"2024-01-28", "2024-02-25", "2024-03-31", "2024-04-28", "2024-05-26", "2024-06-30", "2024-07-28", "2024-08-25", "2024-09-29", "2024-10-27", "2024-11-24", "2024-12-29"}},
		{broad(), 2023, []string{"2023-01-29", "2023-02-26", "2023-03-26", "2023-04-30", "2023-05-28", "2023-06-25", "2023-07-30", "2023-08-27", "2023-09-24", "2023-10-29", "2023-11-26", "2023-12-31"}},
		{monthly(9, 0), 2024, []string{"2023-10-31", "2023-11-30", "2023-12-31", "2024-01-31", "2024-02-29", "2024-03-31", "2024-04-30", "2024-05-31", "2024-06-30", "2024-07-31", "2024-08-31", "2024-09-30"}},
		{monthly(12, 1), 2022, []string{"2023-01-31", "2023-02-28", "2023-03-31", "2023-04-30", "2023-05-31", "2023-06-30", "2023-07-31", "2023-08-31", "2023-09-30", "2023-10-31", "2023-11-30", "2023-12-31"}},
		{monthly(1, 1), 1899, []string{"1899-02-28", "1899-03-31", "1899-04-30", "1899-05-31", "1899-06-30", "1899-07-31", "1899-08-31", "1899-09-30", "1899-10-31", "1899-11-30", "1899-12-31", "1900-01-31"}},
	} {
		var want []int
		for _, s := range x.days {
			day, e := stamp.Parse(s)
			if e != api.OK {
				t.Fatalf("%s: got %d", s, e)
			}
			want = append(want, day)
		}
		if l, e := Ends(x.c, x.y); !slices.Equal(l, want) || e != api.OK {
			t.Errorf("Ends(%+v, %d): got %v, %d, want %v", x.c, x.y, l, e, want)
		}
	}
}

// TestYearsOfEachShape cuts years of 52 weeks and of 53, with each shape, each period that may have one more, and the first and the last years.
func TestYearsOfEachShape(t *testing.T) {
	check := func(c api.Cal, y int) {
		weeks, ends := probe.Cut(c, y)
		checkYear(t, c, y, weeks, ends)
	}
	for _, rule := range []api.Cal{{Kind: api.LastR, Day: 6, Month: 9}, {Kind: api.NearR, Day: 4, Month: 12, Shift: 1}, {Kind: api.IsoR, Day: 7, Month: 12}} {
		probe.EachCut(rule, func(c api.Cal) {
			for _, y := range []int{1601, 1602, 2015, 2020, 2022, 2023, 2024, 9996, 9997} {
				check(probe.Whole(c), y)
			}
		})
	}
	probe.EachRule(func(c api.Cal) {
		if c.Shape == 0 {
			c.Shape, c.Cycle, c.Extra = api.CycleS, 2, 1+c.Day
		}
		for _, y := range []int{1601, 1700, 1899, 1900, 2000, 2006, 2011, 2012, 2017, 2400, 9997} {
			check(probe.Whole(c), y)
		}
	})
	for _, c := range probe.Cals() {
		for y := 1601; y <= 9997; y += 1 + y%3 {
			check(c, y)
		}
	}
	for y := 1601; y <= 9997; y++ {
		check(broad(), y)
	}
}

// P15.2

func TestQuarter(t *testing.T) {
	for _, x := range []struct {
		c    api.Cal
		ends []int
	}{
		{by454(12), []int{3, 6, 9, 12}}, {probe.Cals()[2], []int{3, 6, 9, 12}}, {broad(), []int{3, 6, 9, 12}}, {monthly(3, 1), []int{3, 6, 9, 12}}, {fours(1), []int{3, 6, 9, 13}}, {pay(4, 13), []int{3, 6, 9, 13}}, {pay(2, 26), []int{6, 13, 19, 26}}, {pay(1, 26), []int{13, 26, 39, 52}},
	} {
		q := 1
		for p := 1; p <= x.ends[3]; p++ {
			if p > x.ends[q-1] {
				q++
			}
			if n, e := Quarter(x.c, p); n != q || e != api.OK {
				t.Errorf("Quarter(%+v, %d): got %d, %d, want %d", x.c, p, n, e, q)
			}
		}
		for _, p := range []int{0, -1, x.ends[3] + 1, x.ends[3] + 2, 53, 1 + 1<<32, 1 - 1<<32, 1 << 62, least, least + 1, most, most - 1} {
			if n, e := Quarter(x.c, p); n != 0 || e != api.ErrArg {
				t.Errorf("Quarter(%+v, %d): got %d, %d", x.c, p, n, e)
			}
		}
	}
	for _, c := range probe.Wrong() {
		for _, p := range []int{0, 1, 12, 13, least, most} {
			if n, e := Quarter(c, p); n != 0 || e != api.ErrArg {
				t.Errorf("Quarter(%+v, %d): got %d, %d", c, p, n, e)
			}
		}
	}
}

// P15.3

func TestAdded(t *testing.T) {
	for _, x := range []struct {
		c    api.Cal
		y, n int
	}{
		{by454(12), 2024, 0}, {by454(12), 2023, 53}, {by454(1), 2023, 5}, {by454(2), 2023, 10}, {by454(3), 2023, 14}, {by454(6), 2023, 27}, {by454(6), 2022, 0},
		{fours(13), 2023, 53}, {fours(1), 2023, 5}, {fours(7), 2023, 29}, {fours(7), 2024, 0}, {pay(4, 2), 2023, 9}, {pay(4, 2), 2024, 0}, {pay(2, 1), 2023, 3}, {pay(2, 26), 2023, 53}, {pay(2, 13), 2023, 27}, {pay(1, 1), 2023, 2}, {pay(1, 52), 2023, 53}, {pay(1, 52), 2024, 0}, {pay(1, 20), 2023, 21},
		{broad(), 2023, 53}, {broad(), 2024, 0}, {probe.Cals()[2], 2023, 53}, {probe.Cals()[2], 2022, 0}, {probe.Cals()[4], 2020, 53}, {probe.Cals()[4], 2021, 0},
	} {
		if n, e := Added(x.c, x.y); n != x.n || e != api.OK {
			t.Errorf("Added(%+v, %d): got %d, %d, want %d", x.c, x.y, n, e, x.n)
		}
	}
}

// noYears are no fiscal years that can be told.
var noYears = []int{1600, 9998, 1599, 9999, 1200, 0, 1, -1, -2023, 2023 + 1<<32, 2023 - 1<<32, least, least + 1, most - 1, most}

// checkErrors holds what is told of a year against the errors that should be.
func checkErrors(t *testing.T, c api.Cal, y int, want, added api.Errno) {
	t.Helper()
	if l, e := Weeks(c, y); len(l) != 0 || e != want {
		t.Errorf("Weeks(%+v, %d): got %v, %d, want %d", c, y, l, e, want)
	}
	if l, e := Ends(c, y); len(l) != 0 || e != want {
		t.Errorf("Ends(%+v, %d): got %v, %d, want %d", c, y, l, e, want)
	}
	if n, e := Added(c, y); n != 0 || e != added {
		t.Errorf("Added(%+v, %d): got %d, %d, want %d", c, y, n, e, added)
	}
}

// TestErrors has wrong years, wrong calendars, and both.
func TestErrors(t *testing.T) {
	for _, c := range append(probe.Cals(), by454(3), fours(2), pay(1, 52), monthly(1, 1)) {
		for _, y := range noYears {
			added := api.ErrRange
			if c.Kind == api.MonthR {
				added = api.ErrArg
			}
			checkErrors(t, c, y, api.ErrRange, added)
		}
	}
	for _, c := range probe.Wrong() {
		for _, y := range append(noYears, 1601, 2023, 9997) {
			checkErrors(t, c, y, api.ErrArg, api.ErrArg)
		}
	}
}

// P15.4

// TestFollows adds up the weeks of some years, and the periods of their quarters.
func TestFollows(t *testing.T) {
	for _, c := range append(probe.Cals(), by454(7), fours(3), pay(1, 17), monthly(6, 0)) {
		for y := 1601; y <= 9997; y += 13 {
			weeks, _ := Weeks(c, y)
			ends, _ := Ends(c, y)
			if all := sum(weeks); c.Shape != api.MonthS && all != 52 && all != 53 {
				t.Fatalf("%+v, %d: got %d weeks", c, y, all)
			}
			if len(ends) != len(weeks) || ends[len(ends)-1] != probe.End(c, y) || !slices.IsSorted(ends) {
				t.Fatalf("%+v, %d: got %v", c, y, ends)
			}
		}
		many := [5]int{}
		weeks, _ := Weeks(c, 2000)
		for p := range weeks {
			q, _ := Quarter(c, p+1)
			many[q]++
		}
		if min(many[1], many[2], many[3], many[4]) < 3 || many[0] > 0 {
			t.Errorf("%+v: got %v", c, many)
		}
	}
}

// TestEachWeek tells weeks one by one, and stops in between.
func TestEachWeek(t *testing.T) {
	for _, x := range []struct {
		from, to int
		days     []int
	}{{0, 6, []int{0}}, {0, 7, []int{0, 7}}, {3, 3, []int{3}}, {3, 17, []int{3, 10, 17}}, {3, 16, []int{3, 10}}, {4, 3, nil}} {
		if l := slices.Collect(weeks(x.from, x.to)); !slices.Equal(l, x.days) {
			t.Errorf("%d to %d: got %v", x.from, x.to, l)
		}
	}
	var l []int
	for day := range weeks(10, 100) {
		if l = append(l, day); len(l) == 2 {
			break
		}
	}
	if !slices.Equal(l, []int{10, 17}) {
		t.Errorf("got %v", l)
	}
}

// TestAnswersAreNew writes into what was told.
func TestAnswersAreNew(t *testing.T) {
	for _, c := range probe.Cals() {
		weeks, ends := probe.Cut(c, 2023)
		l, _ := Weeks(c, 2023)
		m, _ := Ends(c, 2023)
		for i := range l {
			l[i], m[i] = 99, -1
		}
		checkYear(t, c, 2023, weeks, ends)
	}
}
