package vary_test

import (
	"math/big"
	"slices"
	"testing"

	"quarterday/api"
	"quarterday/book"
	"quarterday/comp"
	"quarterday/probe"
	"quarterday/stamp"
	"quarterday/twin"
	"quarterday/unit"
	"quarterday/vary"
)

const (
	lastDay = api.Days - 1
	least   = -1 << 63
	most    = 1<<63 - 1
)

func unitOf(level, y, n int) api.Unit { return api.Unit{Level: level, Year: y, Index: n} }

// dayOf reads a day.
func dayOf(t *testing.T, s string) int {
	t.Helper()
	day, e := stamp.Parse(s)
	if e != api.OK {
		t.Fatalf("%s: got %d", s, e)
	}
	return day
}

// posts is a book of amounts, each two of them a day of 2023 and what was posted there, counted from the day on which the retailers' year begins.
func posts(t *testing.T, l ...int64) api.Book {
	var b api.Book
	for i := 0; i < len(l); i += 2 {
		b.Posts = append(b.Posts, api.Post{Day: dayOf(t, "2023-01-29") + int(l[i]), N: l[i+1]})
	}
	return b
}

func accrual(from, to int, n int64) api.Accrual {
	return api.Accrual{Span: api.Span{From: from, To: to}, N: n}
}

// nrf is the retailers' calendar from 2022 to 2024, of which 2023 has 53 weeks.
func nrf(policy int) api.Cal {
	c := probe.Serving(2022, 2024)[2]
	c.Policy = policy
	return c
}

// gov has months that end with September.
func gov() api.Cal { return probe.Serving(2023, 2024)[5] }

// sameBook tells whether two books have the same postings and accruals.
func sameBook(a, b api.Book) bool {
	return slices.Equal(a.Posts, b.Posts) && slices.Equal(a.Accs, b.Accs)
}

// copyOf is a book that shares nothing with b.
func copyOf(b api.Book) api.Book {
	return api.Book{Posts: slices.Clone(b.Posts), Accs: slices.Clone(b.Accs)}
}

// slowRow lays slow totals of a unit that there is, and of weeks that are compared slowly, beside each other.
func slowRow(s probe.Twins, u api.Unit, t int, b api.Book) (api.Row, api.Errno) {
	this, e := s.Total(u, b)
	if e != api.OK {
		return api.Row{}, e
	}
	weeks, e := s.Weeks(u, t)
	if e == api.ErrGone {
		return api.Row{Unit: u, This: this, Diff: this, Gone: true}, api.OK
	}
	if e != api.OK {
		return api.Row{}, e
	}
	that := new(big.Int)
	for _, w := range weeks {
		n, e := s.Total(w, b)
		if e != api.OK {
			return api.Row{}, e
		}
		that.Add(that, big.NewInt(n))
	}
	diff := new(big.Int).Sub(big.NewInt(this), that)
	if !that.IsInt64() || !diff.IsInt64() {
		return api.Row{}, api.ErrOver
	}
	return api.Row{Unit: u, This: this, That: that.Int64(), Diff: diff.Int64()}, api.OK
}

// checkRow holds what is told of a unit against what should be.
func checkRow(t *testing.T, c api.Cal, u api.Unit, k int, b api.Book, want api.Row, wantE api.Errno) {
	t.Helper()
	if r, e := vary.Row(c, u, k, b); r != want || e != wantE {
		t.Fatalf("Row(%+v, %v, %d, %v): got %+v, %d, want %+v, %d", c, u, k, few(b), r, e, want, wantE)
	}
}

// checkTable holds what is told of a level of a year against what should be.
func checkTable(t *testing.T, c api.Cal, level, y, k int, b api.Book, want []api.Row, wantE api.Errno) {
	t.Helper()
	if l, e := vary.Table(c, level, y, k, b); !slices.Equal(l, want) || e != wantE {
		t.Fatalf("Table(%+v, %d, %d, %d, %v): got %+v, %d, want %+v, %d", c, level, y, k, few(b), l, e, want, wantE)
	}
}

// few is the beginning of a book, for telling it.
func few(b api.Book) api.Book {
	return api.Book{Posts: b.Posts[:min(len(b.Posts), 9)], Accs: b.Accs[:min(len(b.Accs), 9)]}
}

// checkYear holds the tables of a year, and some of its rows by themselves, against what is worked out slowly.
func checkYear(t *testing.T, s probe.Twins, y, other int, b api.Book) {
	t.Helper()
	kept := copyOf(b)
	for level := 1; level <= 5; level++ {
		var rows []api.Row
		first := api.OK
		for i := range s.Years[y].Units[level] {
			u := unitOf(level, y, i+1)
			r, e := slowRow(s, u, other, b)
			if i%7 == 0 || i > 50 {
				checkRow(t, s.Cal, u, other-y, b, r, e)
			}
			rows = append(rows, r)
			if first == api.OK {
				first = e
			}
		}
		if first != api.OK {
			rows = nil
		}
		checkTable(t, s.Cal, level, y, other-y, b, rows, first)
	}
	if !sameBook(b, kept) {
		t.Fatal("the book has changed")
	}
}

// tableBook has postings at the edges of retailers' years, and an accrual: of it fall 3 to the last week of their 2022, and 8 to the first one of 2023; by months, 3 to the week 19 of 2023, 3 to the next one, 5 to that behind it.
func tableBook(t *testing.T) api.Book {
	var b api.Book
	for i, s := range []string{"2022-01-30", "2023-01-28", "2023-01-29", "2023-02-05", "2024-02-03", "2024-02-04"} {
		b.Posts = append(b.Posts, api.Post{Day: dayOf(t, s), N: []int64{1, 20, 300, 4000, 50000, 600000}[i]})
	}
	b.Accs = []api.Accrual{accrual(dayOf(t, "2023-01-26"), dayOf(t, "2023-02-04"), 11)}
	return b
}

// P23.1

func TestRow(t *testing.T) {
	const from, shift, drop = api.FromP, api.ShiftP, api.DropP
	for _, x := range []struct {
		c          api.Cal
		u          api.Unit
		k          int
		this, that int64
		gone       bool
	}{
		{nrf(from), unitOf(5, 2023, 1), -1, 308, 1, false}, {nrf(from), unitOf(5, 2024, 1), -1, 600000, 308, false}, {nrf(from), unitOf(5, 2024, 2), -1, 0, 4000, false}, {nrf(from), unitOf(5, 2023, 53), -1, 50000, 308, false}, {nrf(from), unitOf(5, 2022, 1), 1, 1, 308, false}, {nrf(from), unitOf(5, 2022, 1), 2, 1, 600000, false}, {nrf(from), unitOf(5, 2022, 52), 0, 23, 23, false}, {nrf(from), unitOf(4, 2023, 12), -1, 50000, 331, false}, {nrf(from), unitOf(4, 2023, 1), -1, 4308, 1, false}, {nrf(from), unitOf(3, 2022, 1), 2, 1, 600000, false}, {nrf(from), unitOf(2, 2022, 2), 1, 23, 0, false}, {nrf(from), unitOf(2, 2023, 2), -1, 50000, 331, false}, {nrf(from), unitOf(1, 2023, 1), -1, 54308, 332, false}, {nrf(from), unitOf(1, 2022, 1), 1, 24, 4308, false}, {nrf(from), unitOf(1, 2024, 1), -1, 600000, 4308, false}, {nrf(from), unitOf(1, 2023, 1), 0, 54308, 54308, false},
		{nrf(shift), unitOf(5, 2023, 2), -1, 4000, 1, false}, {nrf(shift), unitOf(5, 2024, 1), -1, 600000, 4000, false}, {nrf(shift), unitOf(5, 2023, 53), -1, 50000, 23, false}, {nrf(shift), unitOf(5, 2022, 52), 1, 23, 50000, false}, {nrf(shift), unitOf(5, 2023, 1), 1, 308, 50000, false}, {nrf(shift), unitOf(4, 2023, 12), -1, 50000, 23, false}, {nrf(shift), unitOf(2, 2022, 2), 1, 23, 50000, false}, {nrf(shift), unitOf(1, 2024, 1), -1, 600000, 54000, false}, {nrf(shift), unitOf(1, 2023, 1), 1, 54308, 650000, false}, {nrf(shift), unitOf(1, 2022, 1), 2, 24, 600000, false},
		{nrf(drop), unitOf(5, 2023, 53), -1, 50000, 0, true}, {nrf(drop), unitOf(5, 2023, 53), 1, 50000, 0, true}, {nrf(drop), unitOf(5, 2023, 53), 0, 50000, 50000, false}, {nrf(drop), unitOf(4, 2023, 12), -1, 50000, 23, false}, {nrf(drop), unitOf(3, 2023, 4), -1, 50000, 23, false}, {nrf(drop), unitOf(1, 2023, 1), -1, 54308, 24, false}, {nrf(drop), unitOf(1, 2024, 1), -1, 600000, 4308, false}, {nrf(drop), unitOf(1, 2024, 1), -2, 600000, 24, false},
		{gov(), unitOf(5, 2024, 21), -1, 650000, 4005, false}, {gov(), unitOf(5, 2024, 25), -1, 0, 0, true}, {gov(), unitOf(5, 2023, 25), 1, 0, 0, false}, {gov(), unitOf(5, 2023, 19), 1, 23, 0, false}, {gov(), unitOf(5, 2023, 20), 1, 303, 0, false}, {gov(), unitOf(4, 2024, 5), -1, 650000, 4005, false}, {gov(), unitOf(4, 2024, 4), -1, 0, 326, false}, {gov(), unitOf(3, 2023, 2), 1, 4331, 650000, false}, {gov(), unitOf(1, 2024, 1), -1, 650000, 4331, false}, {gov(), unitOf(1, 2023, 1), 0, 4331, 4331, false},
	} {
		want := api.Row{Unit: x.u, This: x.this, That: x.that, Diff: x.this - x.that, Gone: x.gone}
		checkRow(t, x.c, x.u, x.k, tableBook(t), want, api.OK)
	}
}

// TestRowOfNone has weeks that are not served, years that are not, and units that there are not.
func TestRowOfNone(t *testing.T) {
	for _, x := range []struct {
		c api.Cal
		u api.Unit
		k int
		e api.Errno
	}{
		{nrf(api.ShiftP), unitOf(1, 2023, 1), -1, api.ErrRange}, {nrf(api.ShiftP), unitOf(5, 2023, 1), -1, api.ErrRange}, {nrf(api.ShiftP), unitOf(4, 2023, 1), -1, api.ErrRange}, {nrf(api.FromP), unitOf(5, 2023, 53), 1, api.ErrRange}, {nrf(api.FromP), unitOf(1, 2023, 1), 1, api.ErrRange}, {nrf(api.FromP), unitOf(1, 2023, 1), 2, api.ErrRange}, {nrf(api.DropP), unitOf(5, 2023, 53), 2, api.ErrRange}, {nrf(api.DropP), unitOf(5, 2023, 53), -2, api.ErrRange}, {gov(), unitOf(5, 2024, 25), 1, api.ErrRange}, {gov(), unitOf(1, 2023, 1), -1, api.ErrRange}, {gov(), unitOf(1, 2023, 1), most, api.ErrRange}, {gov(), unitOf(1, 2023, 1), least, api.ErrRange}, {gov(), unitOf(1, 2023, 1), 1 << 32, api.ErrRange},
		{nrf(api.FromP), unitOf(5, 2022, 53), -1, api.ErrNone}, {nrf(api.FromP), unitOf(1, 2021, 1), 1, api.ErrRange}, {nrf(api.FromP), unitOf(0, 2022, 1), 1, api.ErrArg}, {nrf(api.FromP), unitOf(6, 2022, 1), 1, api.ErrArg}, {gov(), unitOf(5, 2023, 60), 9, api.ErrNone},
	} {
		checkRow(t, x.c, x.u, x.k, tableBook(t), api.Row{}, x.e)
		checkRow(t, x.c, x.u, x.k, api.Book{}, api.Row{}, x.e)
	}
}

// TestGreatSums has totals, their sums, and differences, that just fit and that do not. The days 0 to 6 are of the retailers' week 1 of 2023, -364 of that of 2022, 371 of that of 2024.
func TestGreatSums(t *testing.T) {
	week, year := unitOf(5, 2023, 1), unitOf(1, 2023, 1)
	for _, x := range []struct {
		policy     int
		u          api.Unit
		b          []int64
		this, that int64
		e          api.Errno
	}{
		{api.FromP, week, []int64{0, most, -364, 0}, most, 0, api.OK}, {api.FromP, week, []int64{0, most, -364, 1}, most, 1, api.OK}, {api.FromP, week, []int64{0, most, -364, -1}, 0, 0, api.ErrOver}, {api.FromP, week, []int64{0, most, -364, most}, most, most, api.OK}, {api.FromP, week, []int64{0, most - 1, -364, -1}, most - 1, -1, api.OK}, {api.FromP, week, []int64{0, least, -364, -1}, least, -1, api.OK}, {api.FromP, week, []int64{0, least, -364, 1}, 0, 0, api.ErrOver}, {api.FromP, week, []int64{0, least, -364, least}, least, least, api.OK}, {api.FromP, week, []int64{0, least + 1, -364, 1}, least + 1, 1, api.OK},
		{api.FromP, week, []int64{0, 0, -364, least}, 0, 0, api.ErrOver}, {api.FromP, week, []int64{0, -1, -364, least}, -1, least, api.OK}, {api.FromP, week, []int64{0, -1, -364, most}, -1, most, api.OK}, {api.FromP, week, []int64{0, -2, -364, most}, 0, 0, api.ErrOver}, {api.FromP, week, []int64{0, 0, -364, most}, 0, most, api.OK}, {api.FromP, week, []int64{0, most, -364, least}, 0, 0, api.ErrOver}, {api.FromP, week, []int64{0, least, -364, most}, 0, 0, api.ErrOver},
		{api.FromP, week, []int64{0, most, 1, most, -364, 5}, 0, 0, api.ErrOver}, {api.FromP, week, []int64{0, 5, -364, most, -363, most}, 0, 0, api.ErrOver}, {api.FromP, week, []int64{0, most, 1, most, 2, least, -364, most, -363, 1, -362, -2}, most - 1, most - 1, api.OK},
		// a week that is too great by itself, though all of them together are not
		{api.DropP, year, []int64{0, 7, -364, most, -363, most, -300, least, -299, 1}, 0, 0, api.ErrOver}, {api.DropP, year, []int64{0, 7, -364, most, -357, least, -350, most}, 7, most - 1, api.OK}, {api.DropP, year, []int64{0, -3, -364, most, -357, least, -350, most}, 0, 0, api.ErrOver}, {api.DropP, year, []int64{0, 7, -364, most, -357, least, -350, 9}, 7, 8, api.OK}, {api.DropP, year, []int64{0, -1, -364, most, -357, 1, -350, -1}, -1, most, api.OK}, {api.DropP, year, []int64{0, 7, -364, most, -1, 1}, 0, 0, api.ErrOver}, {api.DropP, year, []int64{0, -1, -364, least, -1, -1, -8, 1}, -1, least, api.OK},
		// weeks of the year itself need not fit
		{api.DropP, year, []int64{0, most, 1, most, 70, least, 71, least, -364, 5}, -2, 5, api.OK}, {api.DropP, year, []int64{0, most, 70, most, -364, 5}, 0, 0, api.ErrOver},
	} {
		want := api.Row{}
		if x.e == api.OK {
			want = api.Row{Unit: x.u, This: x.this, That: x.that, Diff: x.this - x.that}
		}
		checkRow(t, nrf(x.policy), x.u, -1, posts(t, x.b...), want, x.e)
	}
	for _, n := range []int64{least, most, 0, -1} {
		gone := unitOf(5, 2023, 53)
		checkRow(t, nrf(api.DropP), gone, -1, posts(t, 370, n, -364, 1), api.Row{Unit: gone, This: n, Diff: n, Gone: true}, api.OK)
	}
	checkRow(t, nrf(api.DropP), unitOf(5, 2023, 53), -1, posts(t, 370, most, 369, 1), api.Row{}, api.ErrOver)
	// by 0 years a week that is too great is too great
	checkRow(t, nrf(api.DropP), year, 0, posts(t, 0, most, 1, most, 70, least), api.Row{}, api.ErrOver)
}

// TestEachUnit has all units of some years, with each policy, also where what they are compared with is not served.
func TestEachUnit(t *testing.T) {
	for _, x := range [][2]int{{2022, 2024}, {1602, 1603}, {9995, 9996}, {2020, 2021}} {
		for _, c := range probe.Serving(x[0], x[1]) {
			probe.EachPolicy(c, func(c api.Cal) {
				s := probe.Twinned(c)
				b := probe.Book(s.Bounds(), 6, 5, -7, 1000, 1)
				b.Posts = append(b.Posts, probe.Book(s.Bounds(), 60, 31, -4, 1<<40, -1<<40).Posts...)
				for y := x[0]; y <= x[1]; y++ {
					checkYear(t, s, y, x[0]+(y+x[1])%2, b)
				}
				checkYear(t, s, x[1], x[1]+1, b)
				checkYear(t, s, x[0], x[0]-1, b)
				checkYear(t, s, x[0], x[1], api.Book{Posts: probe.Book(s.Bounds(), 9, most, least, 1<<62).Posts})
				checkYear(t, s, x[0], x[1], api.Book{})
			})
		}
	}
}

// TestEachCut has all units of a year of 52 weeks and of one of 53, with each shape, and each period that may have one more.
func TestEachCut(t *testing.T) {
	probe.EachCut(api.Cal{Kind: api.LastR, Day: 6, Month: 9}, func(c api.Cal) {
		c = probe.Whole(c)
		c.First, c.Last, c.Policy = 2022, 2024, 1+c.Extra%3
		s := probe.Twinned(c)
		b := probe.Book(s.Bounds(), 3, 999, -98)
		b.Posts = append(b.Posts, probe.Book(s.Bounds(), 50, 31, -4, 100000).Posts...)
		checkYear(t, s, 2023, 2022+c.Cycle/2, b)
		checkYear(t, s, 2022+2*(c.Extra%2), 2023, b)
	})
}

// TestEachRule has some units of years of each rule.
func TestEachRule(t *testing.T) {
	probe.EachCal(func(c api.Cal) {
		c.First, c.Last = 2020, 2024
		s := probe.Twinned(c)
		b := probe.Book(s.Bounds(), 5, 31, -4000)
		for _, u := range []api.Unit{unitOf(1, 2021, 1), unitOf(2, 2023, 2), unitOf(4, 2022, 12), unitOf(5, 2022, 25), unitOf(5, 2023, 52)} {
			for other := 2019; other <= 2025; other += 2 {
				r, e := slowRow(s, u, other, b)
				checkRow(t, c, u, other-u.Year, b, r, e)
			}
		}
	})
}

// TestFarYears goes from the first year that is served to the last one, and back, and a year beyond, and much further.
func TestFarYears(t *testing.T) {
	for _, x := range [][2]int{{1602, 2001}, {1850, 2249}, {9597, 9996}} {
		for _, c := range probe.Serving(x[0], x[1]) {
			s := probe.Twinned(c)
			b := api.Book{Posts: probe.Book(s.Years[x[0]].Days(), 40, 7, -9, 1000).Posts}
			b.Posts = append(b.Posts, probe.Book(s.Years[x[1]].Days(), 40, 31, 8, -5).Posts...)
			for level := 1; level <= 5; level++ {
				for _, y := range [][2]int{{x[0], x[1]}, {x[1], x[0]}, {x[0], x[1] + 1}, {x[1], x[0] - 1}} {
					u := unitOf(level, y[0], 1)
					r, e := slowRow(s, u, y[1], b)
					checkRow(t, c, u, y[1]-y[0], b, r, e)
				}
				for _, k := range append(probe.Far(0), probe.Far(1)...) {
					checkRow(t, c, unitOf(level, x[0], 1), k, b, api.Row{}, api.ErrRange)
					checkTable(t, c, level, x[1], k, b, nil, api.ErrRange)
				}
				for _, k := range []int{most - x[0], most - x[0] + 1, least + x[0], least + x[0] - 1} {
					checkRow(t, c, unitOf(level, x[0], 1), k, b, api.Row{}, api.ErrRange)
					checkTable(t, c, level, x[0], -k, b, nil, api.ErrRange)
				}
			}
		}
	}
}

// P23.2

func TestTable(t *testing.T) {
	b := tableBook(t)
	row := func(level, n int, this, that int64) api.Row {
		return api.Row{Unit: unitOf(level, 2023, n), This: this, That: that, Diff: this - that}
	}
	checkTable(t, nrf(api.FromP), 1, 2023, -1, b, []api.Row{row(1, 1, 54308, 332)}, api.OK)
	checkTable(t, nrf(api.FromP), 2, 2023, -1, b, []api.Row{row(2, 1, 4308, 1), row(2, 2, 50000, 331)}, api.OK)
	checkTable(t, nrf(api.DropP), 3, 2023, -1, b, []api.Row{row(3, 1, 4308, 1), row(3, 2, 0, 0), row(3, 3, 0, 0), row(3, 4, 50000, 23)}, api.OK)
	checkTable(t, gov(), 3, 2023, 1, b, []api.Row{row(3, 1, 0, 0), row(3, 2, 4331, 650000), row(3, 3, 0, 0), row(3, 4, 0, 0)}, api.OK)
	weeks := []api.Row{row(5, 1, 308, 1), row(5, 2, 4000, 0)}
	for n := 3; n <= 52; n++ {
		weeks = append(weeks, row(5, n, 0, 0))
	}
	weeks[51] = row(5, 52, 0, 23)
	gone := row(5, 53, 50000, 0)
	gone.Gone = true
	checkTable(t, nrf(api.DropP), 5, 2023, -1, b, append(weeks, gone), api.OK)
	checkTable(t, nrf(api.FromP), 5, 2023, -1, b, append(weeks, row(5, 53, 50000, 308)), api.OK)
	checkTable(t, nrf(api.ShiftP), 5, 2023, -1, b, nil, api.ErrRange)
}

// TestFirstError has tables of which two rows are refused, each in its own way: the first one is told.
func TestFirstError(t *testing.T) {
	over := []int64{0, most, 1, most}
	late := []int64{370, most, 369, most}
	for i, x := range []struct {
		policy, level, y, k int
		b                   []int64
		e                   api.Errno
	}{
		// the first week is compared with one that is not served, the last one is too great
		{api.ShiftP, 5, 2023, -1, late, api.ErrRange}, {api.ShiftP, 4, 2023, -1, late, api.ErrRange}, {api.ShiftP, 1, 2023, -1, late, api.ErrOver},
		// the first week is too great, the last one is compared with one that is not served
		{api.FromP, 5, 2023, 1, over, api.ErrOver}, {api.FromP, 1, 2023, 1, over, api.ErrOver}, {api.FromP, 5, 2023, 1, late, api.ErrOver}, {api.FromP, 5, 2023, 1, nil, api.ErrRange},
		// a total is too great, and the year is not served
		{api.FromP, 5, 2023, 2, over, api.ErrOver}, {api.FromP, 5, 2023, 2, late, api.ErrRange}, {api.FromP, 1, 2023, 2, late, api.ErrOver},
		// only what is compared is too great, in the first or in the last row, or not at all
		{api.FromP, 5, 2022, 1, over, api.ErrOver}, {api.FromP, 5, 2022, 1, late, api.OK}, {api.ShiftP, 5, 2022, 1, late, api.ErrOver}, {api.DropP, 5, 2022, 1, late, api.OK}, {api.ShiftP, 5, 2022, 1, over, api.OK}, {api.FromP, 2, 2024, -1, over, api.ErrOver}, {api.DropP, 2, 2024, -1, late, api.OK},
	} {
		if l, e := vary.Table(nrf(x.policy), x.level, x.y, x.k, posts(t, x.b...)); e != x.e || (e == api.OK) != (len(l) > 0) {
			t.Errorf("%d: got %v, %d, want %d", i, l, e, x.e)
		}
	}
}

// TestAccruals has accruals that can't be cut, of the year, of the one that it is compared with, or of the one beside that.
func TestAccruals(t *testing.T) {
	c := nrf(api.FromP)
	d := func(s string) int { return dayOf(t, s) }
	early, late := accrual(d("2022-01-01"), d("2022-02-01"), 5), accrual(d("2025-01-01"), d("2025-02-03"), 5)
	for _, x := range []struct {
		u api.Unit
		k int
		b api.Book
		e api.Errno
	}{
		{unitOf(5, 2022, 1), 1, api.Book{Accs: []api.Accrual{early}}, api.ErrRange}, {unitOf(5, 2023, 1), -1, api.Book{Accs: []api.Accrual{early}}, api.ErrRange}, {unitOf(5, 2023, 1), 0, api.Book{Accs: []api.Accrual{early}}, api.OK}, {unitOf(5, 2023, 1), 1, api.Book{Accs: []api.Accrual{early}}, api.OK}, {unitOf(5, 2023, 53), -1, api.Book{Accs: []api.Accrual{early}}, api.OK}, {unitOf(4, 2023, 12), -1, api.Book{Accs: []api.Accrual{early}}, api.ErrRange}, {unitOf(5, 2023, 1), -1, api.Book{Accs: []api.Accrual{late}}, api.OK}, {unitOf(5, 2023, 1), 1, api.Book{Accs: []api.Accrual{late}}, api.ErrRange}, {unitOf(5, 2024, 1), -1, api.Book{Accs: []api.Accrual{late}}, api.ErrRange},
	} {
		if r, e := vary.Row(c, x.u, x.k, x.b); e != x.e || (e == api.OK) != (r.Unit == x.u) {
			t.Errorf("%v, %d, %v: got %v, %d, want %d", x.u, x.k, x.b, r, e, x.e)
		}
	}
	// Of 400 years one accrual is too long, one is not all served: which is told hangs on the years of the unit and of the weeks with which it is compared.
	m := probe.Serving(1800, 2199)[2]
	m.Policy = api.FromP
	long := accrual(d("1850-06-01"), d("1950-06-01"), 5)
	beyond := accrual(d("1950-06-01"), d("2250-06-01"), 5)
	both := api.Book{Accs: []api.Accrual{beyond, long}}
	for _, x := range []struct {
		y, other int
		e        api.Errno
	}{{1840, 1849, api.OK}, {1840, 1860, api.ErrLong}, {1860, 1840, api.ErrLong}, {1860, 1960, api.ErrLong}, {1960, 1860, api.ErrRange}, {1840, 1960, api.ErrRange}, {1950, 1840, api.ErrRange}, {1840, 1950, api.ErrRange}, {1949, 1950, api.ErrLong}} {
		r, e := vary.Row(m, unitOf(1, x.y, 1), x.other-x.y, both)
		if e != x.e || e != api.OK && r != (api.Row{}) {
			t.Errorf("%d, %d: got %v, %d, want %d", x.y, x.other, r, e, x.e)
		}
		if l, e := vary.Table(m, 4, x.y, x.other-x.y, both); e != x.e || e != api.OK && len(l) > 0 {
			t.Errorf("%d, %d: got %v, %d, want %d", x.y, x.other, l, e, x.e)
		}
	}
}

// TestErrors has calendars, units, years and books that may not be, and two of these at once.
func TestErrors(t *testing.T) {
	wrongPost, wrongAccrual := api.Post{Day: -1}, accrual(1, 0, 5)
	books := map[api.Errno][]api.Book{
		api.OK:      {{}, tableBook(t)},
		api.ErrLong: {{Posts: make([]api.Post, 4097)}, {Accs: make([]api.Accrual, 4097)}},
		api.ErrDate: {{Posts: []api.Post{wrongPost}}, {Posts: []api.Post{wrongPost}, Accs: []api.Accrual{wrongAccrual}}, {Accs: []api.Accrual{accrual(0, lastDay+1, 0), wrongAccrual}}},
		api.ErrArg:  {{Accs: []api.Accrual{wrongAccrual}}, {Accs: []api.Accrual{wrongAccrual, accrual(-1, 0, 0)}}},
	}
	for _, c := range append(probe.Serving(2022, 2023), probe.Wrong()...) {
		for wrong, l := range books {
			for _, b := range l {
				for _, level := range []int{-1, 0, 1, 5, 6, 1<<32 + 1, most, least} {
					for _, y := range []int{2022, 2023, 2021, 2024, most, least} {
						for _, k := range []int{0, 1, -1, 2, most, least} {
							checkWrong(t, c, level, y, k, b, wrong)
						}
					}
				}
			}
		}
	}
}

// checkWrong has units of a level of a year that there are not, and one that there is: of it the book's error is told, if it has one.
func checkWrong(t *testing.T, c api.Cal, level, y, k int, b api.Book, wrong api.Errno) {
	t.Helper()
	_, e := unit.Count(c, level, y)
	for _, n := range []int{0, -1, 61, 1<<32 + 1} {
		u := unitOf(level, y, n)
		checkRow(t, c, u, k, b, api.Row{}, unit.Check(c, u))
	}
	u := unitOf(level, y, 1)
	if e == api.OK {
		e = wrong
	}
	if e != api.OK {
		checkRow(t, c, u, k, b, api.Row{}, e)
		checkTable(t, c, level, y, k, b, nil, e)
		return
	}
	if _, e := twin.Weeks(c, u, k); e != api.OK && e != api.ErrGone {
		checkRow(t, c, u, k, b, api.Row{}, e)
		checkTable(t, c, level, y, k, b, nil, e)
	}
}

// P23.3

// TestNoDifference compares years with themselves.
func TestNoDifference(t *testing.T) {
	for _, c := range probe.Serving(2019, 2023) {
		probe.EachPolicy(c, func(c api.Cal) {
			b := probe.Book(probe.Slowly(c).Bounds(), 40, 5, -7, 123456789, 1, -1<<40)
			for y := 2019; y <= 2023; y++ {
				for level := 1; level <= 5; level++ {
					rows, e := vary.Table(c, level, y, 0, b)
					totals, f := book.Roll(c, level, y, b)
					if len(rows) != len(totals) || e != api.OK || f != api.OK {
						t.Fatalf("%+v, %d, %d: got %d, %d", c, level, y, e, f)
					}
					for i, r := range rows {
						if r != (api.Row{Unit: totals[i].Unit, This: totals[i].N, That: totals[i].N}) {
							t.Fatalf("%+v: got %+v, want %v", c, r, totals[i])
						}
					}
				}
			}
		})
	}
}

// TestDays adds up the postings of the days with which those of units are compared one by one.
func TestDays(t *testing.T) {
	for _, c := range probe.Serving(2018, 2023) {
		if c.Kind == api.MonthR {
			continue
		}
		probe.EachPolicy(c, func(c api.Cal) {
			b := api.Book{Posts: probe.Book(probe.Slowly(c).Bounds(), 700, 1, 20, -300, 4000, 1<<40).Posts}
			posted := map[int]int64{}
			for _, p := range b.Posts {
				posted[p.Day] += p.N
			}
			for y := 2018; y <= 2023; y++ {
				for k := 2018 - y; k <= 2023-y; k++ {
					for level := 1; level <= 5; level++ {
						rows, e := vary.Table(c, level, y, k, b)
						if e == api.OK {
							checkThat(t, c, rows, k, posted)
						} else if e != api.ErrRange || c.Policy == api.DropP {
							t.Fatalf("%+v, %d, %d, %d: got %d", c, level, y, k, e)
						}
					}
				}
			}
		})
	}
}

// checkThat holds rows against the postings of the days with which their units' days are compared.
func checkThat(t *testing.T, c api.Cal, rows []api.Row, k int, posted map[int]int64) {
	t.Helper()
	for i, r := range rows {
		if i%5 > 0 && i < 50 {
			continue
		}
		s, _ := unit.Span(c, r.Unit)
		that, gone := int64(0), true
		for day := s.From; day <= s.To; day++ {
			other, e := comp.Day(c, day, k)
			if e == api.OK {
				that, gone = that+posted[other], false
			} else if e != api.ErrGone {
				t.Fatalf("%+v, %v, %d: got %d", c, r, k, e)
			}
		}
		if r.That != that || r.Gone != gone || r.Diff != r.This-that {
			t.Fatalf("%+v, %d: got %+v, want %d", c, k, r, that)
		}
	}
}

// TestFullBook has as many postings and accruals as there may be.
func TestFullBook(t *testing.T) {
	for _, c := range probe.Serving(2022, 2024) {
		s := probe.Slowly(c)
		b := probe.Book(s.Bounds(), 4096, 5, -7, 1000, 1, 0, -1<<40)
		rows, e := vary.Table(c, api.WeekL, 2023, 0, b)
		n, f := s.Total(unitOf(1, 2023, 1), b)
		sum := int64(0)
		for _, r := range rows {
			sum += r.That
		}
		if sum != n || e != api.OK || f != api.OK {
			t.Fatalf("%+v: got %d, %d, %d, want %d", c, sum, e, f, n)
		}
		b.Posts = append(b.Posts, api.Post{})
		checkTable(t, c, api.WeekL, 2023, 0, b, nil, api.ErrLong)
	}
}

// TestAnswersAreNew writes into what was told, and behind it.
func TestAnswersAreNew(t *testing.T) {
	b := tableBook(t)
	for level := 1; level <= 5; level++ {
		kept, _ := vary.Table(nrf(api.DropP), level, 2023, -1, b)
		want := slices.Clone(kept)
		l, _ := vary.Table(nrf(api.DropP), level, 2023, -1, b)
		for i := range l {
			l[i] = api.Row{Diff: -1}
		}
		_ = append(l, api.Row{This: 9})
		if !slices.Equal(kept, want) || !sameBook(b, tableBook(t)) {
			t.Fatalf("got %v, want %v", kept, want)
		}
		checkTable(t, nrf(api.DropP), level, 2023, -1, b, want, api.OK)
	}
}
