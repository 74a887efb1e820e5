package book_test

import (
	"slices"
	"testing"

	"quarterday/api"
	"quarterday/book"
	"quarterday/probe"
	"quarterday/stamp"
	"quarterday/unit"
)

const (
	lastDay = api.Days - 1
	least   = -1 << 63
	most    = 1<<63 - 1
)

func unitOf(level, y, n int) api.Unit { return api.Unit{Level: level, Year: y, Index: n} }

// dayOf reads a day.
func dayOf(t *testing.T, s string) int {
	t.Helper()
	day, e := stamp.Parse(s)
	if e != api.OK {
		t.Fatalf("%s: got %d", s, e)
	}
	return day
}

func post(day int, n int64) api.Post { return api.Post{Day: day, N: n} }

func accrual(from, to int, n int64) api.Accrual {
	return api.Accrual{Span: api.Span{From: from, To: to}, N: n}
}

// posts is a book of postings alone, accs one of accruals alone.
func posts(l ...api.Post) api.Book { return api.Book{Posts: l} }

func accs(l ...api.Accrual) api.Book { return api.Book{Accs: l} }

// The calendars of the tables, from 2000 to 2030: retailers, broadcasters, ISO weeks by pay cycles of two, months that end with September.
func nrf() api.Cal { return probe.Serving(2000, 2030)[2] }

func broad() api.Cal { return probe.Serving(2000, 2030)[3] }

func iso() api.Cal { return probe.Serving(2000, 2030)[4] }

func gov() api.Cal { return probe.Serving(2000, 2030)[5] }

// sameBook tells whether two books have the same postings and accruals.
func sameBook(a, b api.Book) bool {
	return slices.Equal(a.Posts, b.Posts) && slices.Equal(a.Accs, b.Accs)
}

// copyOf is a book that shares nothing with b.
func copyOf(b api.Book) api.Book {
	return api.Book{Posts: slices.Clone(b.Posts), Accs: slices.Clone(b.Accs)}
}

// roomy is a copy of a book whose lists have room behind them, with something there.
func roomy(b api.Book) api.Book {
	p := append(slices.Clone(b.Posts), post(77, 77), post(78, 78))
	a := append(slices.Clone(b.Accs), accrual(77, 78, 79), accrual(78, 79, 80))
	return api.Book{Posts: p[:len(b.Posts)], Accs: a[:len(b.Accs)]}
}

// P22.1

// wrongPosts are postings that may not be.
func wrongPosts() []api.Post {
	l := []api.Post{post(-1, 0), post(-2, 5), post(lastDay+1, 0), post(lastDay+2, -5)}
	for _, day := range probe.Far(5) {
		l = append(l, post(day, 1))
	}
	return l
}

// wrongAccruals are accruals that may not be, and why.
func wrongAccruals() map[api.Accrual]api.Errno {
	l := map[api.Accrual]api.Errno{
		accrual(-1, 0, 0): api.ErrDate, accrual(-1, -1, 0): api.ErrDate, accrual(0, lastDay+1, 0): api.ErrDate, accrual(lastDay, lastDay+1, 0): api.ErrDate, accrual(lastDay+1, lastDay+1, 0): api.ErrDate, accrual(-1, lastDay+1, 0): api.ErrDate,
		// of these two things are wrong
		accrual(0, -1, 0): api.ErrDate, accrual(lastDay+1, 0, 0): api.ErrDate, accrual(lastDay+1, -1, 0): api.ErrDate, accrual(lastDay+2, lastDay+1, 0): api.ErrDate, accrual(most, least, 0): api.ErrDate, accrual(-1, -2, 0): api.ErrDate,
		accrual(1, 0, 0): api.ErrArg, accrual(lastDay, 0, 5): api.ErrArg, accrual(lastDay, lastDay-1, -5): api.ErrArg, accrual(154897, 154896, 1): api.ErrArg,
	}
	for _, day := range probe.Far(5) {
		l[accrual(day, 9, 1)], l[accrual(3, day, 1)], l[accrual(day, day, 1)] = api.ErrDate, api.ErrDate, api.ErrDate
	}
	return l
}

func TestCheck(t *testing.T) {
	right := api.Book{
		Posts: []api.Post{post(0, 0), post(1, least), post(lastDay, most), post(lastDay-1, -1), post(0, 0)},
		Accs:  []api.Accrual{accrual(0, 0, most), accrual(0, lastDay, least), accrual(lastDay, lastDay, 0), accrual(lastDay-1, lastDay, 0), accrual(5, 6, 7), accrual(0, 1, 0), accrual(5, 6, 7)},
	}
	for _, b := range []api.Book{{}, right, {Posts: right.Posts}, {Accs: right.Accs}, {Posts: []api.Post{}, Accs: []api.Accrual{}}} {
		if e := book.Check(b); e != api.OK {
			t.Errorf("%v: got %d", b, e)
		}
	}
	for _, p := range wrongPosts() {
		for at := range len(right.Posts) + 1 {
			b := api.Book{Posts: slices.Insert(slices.Clone(right.Posts), at, p), Accs: right.Accs}
			if e := book.Check(b); e != api.ErrDate {
				t.Errorf("%v: got %d", b, e)
			}
		}
	}
	for a, want := range wrongAccruals() {
		for at := range len(right.Accs) + 1 {
			b := api.Book{Posts: right.Posts, Accs: slices.Insert(slices.Clone(right.Accs), at, a)}
			if e := book.Check(b); e != want {
				t.Errorf("%v: got %d, want %d", b, e, want)
			}
		}
	}
}

// TestCheckOrder has books of which two things are wrong.
func TestCheckOrder(t *testing.T) {
	wrong := post(-1, 0)
	date, arg := accrual(-1, 0, 0), accrual(1, 0, 0)
	for i, x := range []struct {
		b api.Book
		e api.Errno
	}{
		{api.Book{Posts: []api.Post{wrong}, Accs: []api.Accrual{arg}}, api.ErrDate}, {api.Book{Posts: []api.Post{post(0, 0), wrong}, Accs: []api.Accrual{arg, date}}, api.ErrDate}, {api.Book{Posts: []api.Post{post(0, 0)}, Accs: []api.Accrual{arg}}, api.ErrArg},
		{accs(arg, date), api.ErrArg}, {accs(date, arg), api.ErrDate}, {accs(accrual(0, 0, 0), arg, date), api.ErrArg}, {accs(accrual(0, 0, 0), date, arg), api.ErrDate},
		{api.Book{Posts: slices.Repeat([]api.Post{wrong}, 4097)}, api.ErrLong}, {api.Book{Posts: slices.Repeat([]api.Post{wrong}, 4096)}, api.ErrDate}, {api.Book{Accs: slices.Repeat([]api.Accrual{arg}, 4097)}, api.ErrLong}, {api.Book{Accs: slices.Repeat([]api.Accrual{arg}, 4096)}, api.ErrArg},
		{api.Book{Posts: []api.Post{wrong}, Accs: make([]api.Accrual, 4097)}, api.ErrLong}, {api.Book{Posts: make([]api.Post, 4097), Accs: []api.Accrual{arg}}, api.ErrLong}, {api.Book{Posts: make([]api.Post, 4097), Accs: make([]api.Accrual, 4097)}, api.ErrLong},
	} {
		if e := book.Check(x.b); e != x.e {
			t.Errorf("%d: got %d, want %d", i, e, x.e)
		}
	}
}

// TestCheckLengths has as many postings, and accruals, as there may be, one less and one more.
func TestCheckLengths(t *testing.T) {
	for _, many := range []int{4095, 4096, 4097, 8192} {
		for _, others := range []int{0, 1, 4095, 4096, 4097} {
			want := api.OK
			if many > 4096 || others > 4096 {
				want = api.ErrLong
			}
			if e := book.Check(api.Book{Posts: make([]api.Post, many), Accs: make([]api.Accrual, others)}); e != want {
				t.Errorf("%d, %d: got %d", many, others, e)
			}
			if e := book.Check(api.Book{Posts: make([]api.Post, others), Accs: make([]api.Accrual, many)}); e != want {
				t.Errorf("%d, %d: got %d", others, many, e)
			}
		}
	}
	full := api.Book{Posts: make([]api.Post, 4096), Accs: make([]api.Accrual, 4096)}
	full.Accs[4095].From = 1
	if e := book.Check(full); e != api.ErrArg {
		t.Errorf("got %d", e)
	}
	full.Posts[4095].Day = -1
	if e := book.Check(full); e != api.ErrDate {
		t.Errorf("got %d", e)
	}
}

// P22.2

// checkPut holds the book that has one posting more against what should be, and that none of what was handed in has changed.
func checkPut(t *testing.T, b api.Book, p api.Post, want api.Errno) {
	t.Helper()
	given, wanted := roomy(b), api.Book{}
	if want == api.OK {
		wanted = api.Book{Posts: append(slices.Clone(b.Posts), p), Accs: b.Accs}
	}
	next, e := book.Put(given, p)
	if !sameBook(next, wanted) || e != want {
		t.Fatalf("Put(%d, %d, %v): got %d, %d, %d, want %d", len(b.Posts), len(b.Accs), p, len(next.Posts), len(next.Accs), e, want)
	}
	checkApart(t, given, next, b, wanted)
}

// checkAccrue does that of an accrual.
func checkAccrue(t *testing.T, b api.Book, a api.Accrual, want api.Errno) {
	t.Helper()
	given, wanted := roomy(b), api.Book{}
	if want == api.OK {
		wanted = api.Book{Posts: b.Posts, Accs: append(slices.Clone(b.Accs), a)}
	}
	next, e := book.Accrue(given, a)
	if !sameBook(next, wanted) || e != want {
		t.Fatalf("Accrue(%d, %d, %v): got %d, %d, %d, want %d", len(b.Posts), len(b.Accs), a, len(next.Posts), len(next.Accs), e, want)
	}
	checkApart(t, given, next, b, wanted)
}

// checkApart writes into the book that was handed in and into the one that was told, and behind them: each stays as it was told but for that.
func checkApart(t *testing.T, given, next, b, wanted api.Book) {
	t.Helper()
	n, m := len(given.Posts), len(given.Accs)
	if !sameBook(given, b) || given.Posts[:n+1][n] != post(77, 77) || given.Accs[:m+1][m] != accrual(77, 78, 79) {
		t.Fatalf("what was handed in has changed: %v", given)
	}
	spoil(given)
	if !sameBook(next, wanted) {
		t.Fatal("what was told hangs on what was handed in")
	}
	given = roomy(b)
	spoil(next)
	if !sameBook(given, b) {
		t.Fatal("what was handed in hangs on what was told")
	}
}

// spoil writes into a book, and behind it.
func spoil(b api.Book) {
	for i := range b.Posts {
		b.Posts[i] = post(-9, -9)
	}
	for i := range b.Accs {
		b.Accs[i] = accrual(-9, -9, -9)
	}
	_, _ = append(b.Posts, post(-8, -8)), append(b.Accs, accrual(-8, -8, -8))
}

// TestPutAndAccrue makes a book of one after the other.
func TestPutAndAccrue(t *testing.T) {
	b := api.Book{}
	for i := range 40 {
		p, a := post(i*78000%api.Days, int64(i)*most/40), accrual(i*70000, i*70000+i, least/40*int64(i))
		checkPut(t, b, p, api.OK)
		b, _ = book.Put(b, p)
		checkAccrue(t, b, a, api.OK)
		b, _ = book.Accrue(b, a)
		if e := book.Check(b); len(b.Posts) != i+1 || len(b.Accs) != i+1 || e != api.OK {
			t.Fatalf("%d: got %v, %d", i, b, e)
		}
	}
	for _, x := range []api.Post{post(0, least), post(lastDay, most), post(1, 0), post(lastDay-1, 0)} {
		checkPut(t, b, x, api.OK)
		checkPut(t, api.Book{}, x, api.OK)
	}
	for _, x := range []api.Accrual{accrual(0, 0, least), accrual(0, lastDay, most), accrual(lastDay, lastDay, 0), accrual(1, 2, 3)} {
		checkAccrue(t, b, x, api.OK)
		checkAccrue(t, api.Book{}, x, api.OK)
	}
}

// TestSameBookTwice puts two postings, and two accruals, behind one book.
func TestSameBookTwice(t *testing.T) {
	b := roomy(api.Book{Posts: []api.Post{post(1, 1)}, Accs: []api.Accrual{accrual(1, 2, 3)}})
	c, _ := book.Put(b, post(2, 2))
	d, _ := book.Put(c, post(3, 3))
	e, _ := book.Put(c, post(4, 4))
	f, _ := book.Accrue(e, accrual(5, 5, 5))
	g, _ := book.Accrue(e, accrual(6, 6, 6))
	h, _ := book.Accrue(g, accrual(7, 7, 7))
	for i, x := range []struct{ got, want api.Book }{
		{b, api.Book{Posts: []api.Post{post(1, 1)}, Accs: []api.Accrual{accrual(1, 2, 3)}}},
		{d, api.Book{Posts: []api.Post{post(1, 1), post(2, 2), post(3, 3)}, Accs: []api.Accrual{accrual(1, 2, 3)}}},
		{e, api.Book{Posts: []api.Post{post(1, 1), post(2, 2), post(4, 4)}, Accs: []api.Accrual{accrual(1, 2, 3)}}},
		{f, api.Book{Posts: e.Posts, Accs: []api.Accrual{accrual(1, 2, 3), accrual(5, 5, 5)}}},
		{h, api.Book{Posts: e.Posts, Accs: []api.Accrual{accrual(1, 2, 3), accrual(6, 6, 6), accrual(7, 7, 7)}}},
	} {
		if !sameBook(x.got, x.want) {
			t.Errorf("%d: got %v, want %v", i, x.got, x.want)
		}
	}
}

// TestPutAndAccrueRefuse has books that may not be, or are full, with what may be put there or not.
func TestPutAndAccrueRefuse(t *testing.T) {
	right := api.Book{Posts: []api.Post{post(1, 2)}, Accs: []api.Accrual{accrual(1, 2, 3)}}
	for _, p := range wrongPosts() {
		checkPut(t, right, p, api.ErrDate)
		checkPut(t, api.Book{}, p, api.ErrDate)
	}
	for a, want := range wrongAccruals() {
		checkAccrue(t, right, a, want)
		checkAccrue(t, api.Book{}, a, want)
		// a book that may not be is told ahead of what is wrong with what is put there
		checkPut(t, accs(a), post(5, 5), want)
		checkPut(t, accs(a), post(-1, 5), want)
		checkAccrue(t, accs(a), accrual(5, 5, 5), want)
		checkAccrue(t, accs(a), accrual(5, 4, 5), want)
		checkAccrue(t, accs(a), accrual(-1, 5, 5), want)
	}
	checkAccrue(t, posts(post(-1, 0)), accrual(5, 4, 5), api.ErrDate)
	for _, many := range []int{4095, 4096, 4097} {
		full := map[bool]api.Errno{true: api.OK, false: api.ErrLong}[many < 4096]
		b := api.Book{Posts: make([]api.Post, many), Accs: make([]api.Accrual, min(many, 4096))}
		checkPut(t, b, post(5, 5), full)
		checkPut(t, b, post(-1, 5), max(full, api.ErrDate))
		b = api.Book{Posts: make([]api.Post, min(many, 4096)), Accs: make([]api.Accrual, many)}
		checkAccrue(t, b, accrual(5, 5, 5), full)
		checkAccrue(t, b, accrual(5, 4, 5), max(full, api.ErrArg))
		checkAccrue(t, b, accrual(-1, 4, 5), max(full, api.ErrDate))
	}
	// a full list is in the way of its own kind alone, and only if the book may be
	full := api.Book{Posts: make([]api.Post, 4096)}
	checkAccrue(t, full, accrual(5, 5, 5), api.OK)
	full.Accs = []api.Accrual{accrual(1, 0, 0)}
	checkPut(t, full, post(5, 5), api.ErrArg)
	full = api.Book{Accs: make([]api.Accrual, 4096)}
	checkPut(t, full, post(5, 5), api.OK)
	full.Posts = []api.Post{post(-1, 0)}
	checkAccrue(t, full, accrual(5, 5, 5), api.ErrDate)
}

// P22.3, P22.4

// checkTotal holds what is told of a unit against what should be.
func checkTotal(t *testing.T, c api.Cal, u api.Unit, b api.Book, want int64, wantE api.Errno) {
	t.Helper()
	if n, e := book.Total(c, u, b); n != want || e != wantE {
		t.Fatalf("Total(%+v, %v, %v): got %d, %d, want %d, %d", c, u, few(b), n, e, want, wantE)
	}
}

// checkRoll holds what is told of a level of a year against what should be.
func checkRoll(t *testing.T, c api.Cal, level, y int, b api.Book, want []api.Share, wantE api.Errno) {
	t.Helper()
	if l, e := book.Roll(c, level, y, b); !slices.Equal(l, want) || e != wantE {
		t.Fatalf("Roll(%+v, %d, %d, %v): got %v, %d, want %v, %d", c, level, y, few(b), l, e, want, wantE)
	}
}

// few is the beginning of a book, for telling it.
func few(b api.Book) api.Book {
	return api.Book{Posts: b.Posts[:min(len(b.Posts), 9)], Accs: b.Accs[:min(len(b.Accs), 9)]}
}

// checkYear holds all units of a year against what is added up slowly.
func checkYear(t *testing.T, s probe.Slow, y int, b api.Book) {
	t.Helper()
	kept := copyOf(b)
	for level := 1; level <= 5; level++ {
		var all []api.Share
		first := api.OK
		for i := range s.Years[y].Units[level] {
			u := unitOf(level, y, i+1)
			n, e := s.Total(u, b)
			checkTotal(t, s.Cal, u, b, n, e)
			if first == api.OK {
				first = e
			}
			all = append(all, api.Share{Unit: u, N: n})
		}
		if first != api.OK {
			all = nil
		}
		checkRoll(t, s.Cal, level, y, b, all, first)
	}
	if !sameBook(b, kept) {
		t.Fatal("the book has changed")
	}
}

// tableBook has postings at the edges of units, and accruals within and across them.
func tableBook(t *testing.T) api.Book {
	d := func(s string) int { return dayOf(t, s) }
	return api.Book{
		Posts: []api.Post{
			post(d("2023-01-28"), 1), post(d("2023-01-29"), 20), post(d("2023-02-04"), 300), post(d("2023-02-05"), 4000), post(d("2024-02-03"), -50000), post(d("2024-02-04"), 600000), post(d("2023-01-29"), 7),
			post(d("2024-02-29"), 9000000), post(d("2020-12-31"), 11), post(d("1600-01-01"), most), post(d("9999-12-31"), most),
		},
		Accs: []api.Accrual{
			accrual(d("2023-01-26"), d("2023-02-04"), 11), accrual(d("2024-02-03"), d("2024-02-05"), -10), accrual(d("2021-01-02"), d("2021-01-05"), 9), accrual(d("2012-06-06"), d("2012-06-06"), 77), accrual(d("1600-01-01"), d("1600-01-02"), most), accrual(d("9999-12-30"), d("9999-12-31"), most),
		},
	}
}

func TestTotal(t *testing.T) {
	for _, x := range []struct {
		c api.Cal
		u api.Unit
		n int64
	}{
		{nrf(), unitOf(5, 2022, 52), 4}, {nrf(), unitOf(4, 2022, 12), 4}, {nrf(), unitOf(3, 2022, 4), 4}, {nrf(), unitOf(2, 2022, 2), 4}, {nrf(), unitOf(1, 2022, 1), 4}, {nrf(), unitOf(2, 2022, 1), 0}, {nrf(), unitOf(5, 2022, 51), 0},
		{nrf(), unitOf(5, 2023, 1), 335}, {nrf(), unitOf(5, 2023, 2), 4000}, {nrf(), unitOf(4, 2023, 1), 4335}, {nrf(), unitOf(3, 2023, 1), 4335}, {nrf(), unitOf(2, 2023, 1), 4335}, {nrf(), unitOf(5, 2023, 53), -50003}, {nrf(), unitOf(5, 2023, 52), 0}, {nrf(), unitOf(4, 2023, 12), -50003}, {nrf(), unitOf(2, 2023, 2), -50003}, {nrf(), unitOf(1, 2023, 1), -45668}, {nrf(), unitOf(5, 2024, 1), 599993}, {nrf(), unitOf(1, 2024, 1), 9599993}, {nrf(), unitOf(1, 2012, 1), 77}, {nrf(), unitOf(1, 2013, 1), 0},
		{broad(), unitOf(5, 2023, 5), 28 + 4}, {broad(), unitOf(5, 2023, 6), 4300 + 7}, {broad(), unitOf(4, 2023, 1), 32}, {broad(), unitOf(1, 2023, 1), 4339}, {broad(), unitOf(4, 2024, 2), 550000 - 10}, {broad(), unitOf(4, 2024, 3), 9000000},
		{iso(), unitOf(5, 2020, 53), 11 + 5}, {iso(), unitOf(4, 2020, 26), 16}, {iso(), unitOf(5, 2021, 1), 4}, {iso(), unitOf(1, 2021, 1), 4}, {iso(), unitOf(1, 2020, 1), 16},
		{gov(), unitOf(5, 2023, 20), 27 + 3}, {gov(), unitOf(5, 2023, 19), 1 + 3}, {gov(), unitOf(5, 2023, 21), 4300 + 5}, {gov(), unitOf(4, 2023, 4), 34}, {gov(), unitOf(4, 2023, 5), 4305}, {gov(), unitOf(5, 2024, 25), 9000000}, {gov(), unitOf(5, 2024, 21), 550000 - 10}, {gov(), unitOf(3, 2024, 2), 9549990}, {gov(), unitOf(1, 2021, 1), 20},
	} {
		probe.EachPolicy(x.c, func(c api.Cal) { checkTotal(t, c, x.u, tableBook(t), x.n, api.OK) })
	}
}

func TestRoll(t *testing.T) {
	shares := func(level, y int, l ...int64) []api.Share {
		var all []api.Share
		for i, n := range l {
			all = append(all, api.Share{Unit: unitOf(level, y, i+1), N: n})
		}
		return all
	}
	b := tableBook(t)
	checkRoll(t, nrf(), 1, 2023, b, shares(1, 2023, -45668), api.OK)
	checkRoll(t, nrf(), 2, 2023, b, shares(2, 2023, 4335, -50003), api.OK)
	checkRoll(t, nrf(), 3, 2023, b, shares(3, 2023, 4335, 0, 0, -50003), api.OK)
	checkRoll(t, nrf(), 4, 2023, b, shares(4, 2023, 4335, 0, 0, 0, 0, 0, 0, 0, 0, 0, 0, -50003), api.OK)
	checkRoll(t, nrf(), 3, 2013, b, shares(3, 2013, 0, 0, 0, 0), api.OK)
	checkRoll(t, gov(), 4, 2024, b, shares(4, 2024, 0, 0, 0, 0, 9549990, 0, 0, 0, 0, 0, 0, 0), api.OK)
	weeks := make([]int64, 53)
	weeks[0], weeks[1], weeks[52] = 335, 4000, -50003
	checkRoll(t, nrf(), 5, 2023, b, shares(5, 2023, weeks...), api.OK)
	checkRoll(t, iso(), 5, 2020, api.Book{}, shares(5, 2020, make([]int64, 53)...), api.OK)
	checkRoll(t, iso(), 4, 2020, api.Book{}, shares(4, 2020, make([]int64, 26)...), api.OK)
}

// TestEachUnit has all units of some years of each calendar, with books that lie within what is served, and such that go beyond it.
func TestEachUnit(t *testing.T) {
	for _, x := range [][2]int{{2019, 2024}, {1602, 1603}, {9995, 9996}, {2023, 2023}} {
		for _, c := range probe.Serving(x[0], x[1]) {
			probe.EachPolicy(c, func(c api.Cal) {
				s := probe.Slowly(c)
				bounds := s.Bounds()
				beyond := api.Span{From: bounds.From - 400, To: bounds.To + 400}
				for y := x[0]; y <= x[1]; y += 1 + (x[1]-x[0])/2 {
					checkYear(t, s, y, probe.Book(bounds, 12, 5, -7, 1000, 1, 0, -1))
					checkYear(t, s, y, api.Book{Posts: probe.Book(beyond, 20, most, -3, least, 1<<62, 77).Posts})
				}
				checkYear(t, s, x[0], probe.Book(beyond, 3, 9))
			})
		}
	}
}

// TestEachCut has all units of a year of 53 weeks, with each shape, and each period that may have one more.
func TestEachCut(t *testing.T) {
	probe.EachCut(api.Cal{Kind: api.LastR, Day: 6, Month: 9}, func(c api.Cal) {
		c = probe.Whole(c)
		c.First, c.Last = 2022, 2024
		s := probe.Slowly(c)
		checkYear(t, s, 2023, probe.Book(s.Bounds(), 6, 999, -98))
	})
}

// TestEachRule has all units of a year of each rule.
func TestEachRule(t *testing.T) {
	probe.EachCal(func(c api.Cal) {
		c.First, c.Last = 2022, 2023
		s := probe.Slowly(c)
		checkYear(t, s, 2022+c.Month%2, probe.Book(s.Bounds(), 5, 31, -4000))
	})
}

// TestEdgesOfUnits has one posting of the first and one of the last day of each unit, and accruals that touch it by one day.
func TestEdgesOfUnits(t *testing.T) {
	for _, c := range probe.Serving(2019, 2021) {
		s := probe.Slowly(c)
		for level := 1; level <= 5; level++ {
			for i, x := range s.Years[2020].Units[level] {
				u := unitOf(level, 2020, i+1)
				checkTotal(t, c, u, posts(post(x.From-1, 1), post(x.From, 20), post(x.To, 300), post(x.To+1, 4000)), 320, api.OK)
				checkTotal(t, c, u, accs(accrual(x.From-1, x.From, 3), accrual(x.To, x.To+1, 50), accrual(x.From, x.To, 1000), accrual(x.From, x.From, 700), accrual(x.To+1, x.To+1, 9999), accrual(x.From-1, x.From-1, 9999)), 1+25+1000+700, api.OK)
			}
		}
	}
}

// TestAccruals has accruals that are of a year, or not, and can't be cut: too long ones, and such that are not all served. Two of them tell which is first.
func TestAccruals(t *testing.T) {
	c := probe.Serving(1700, 2099)[5] // months that end with September
	d := func(s string) int { return dayOf(t, s) }
	long := accrual(d("1800-10-01"), d("1900-09-30"), 7)
	early, late := accrual(d("1699-09-30"), d("1850-01-01"), 8), accrual(d("1850-01-01"), d("2099-10-01"), 9)
	before, behind := accrual(d("1600-01-01"), d("1699-09-30"), most), accrual(d("2099-10-01"), d("9999-12-31"), most)
	single := accrual(d("1850-05-05"), d("1850-05-05"), 3)
	for _, x := range []struct {
		y    int
		accs []api.Accrual
		n    int64
		e    api.Errno
	}{
		{1850, []api.Accrual{long, early}, 0, api.ErrLong}, {1850, []api.Accrual{early, long}, 0, api.ErrRange}, {1850, []api.Accrual{long, late}, 0, api.ErrLong}, {1850, []api.Accrual{late, long}, 0, api.ErrRange}, {1850, []api.Accrual{single, long}, 0, api.ErrLong}, {1850, []api.Accrual{single, late, single}, 0, api.ErrRange}, {1850, []api.Accrual{single, before, behind}, 3, api.OK},
		{1800, []api.Accrual{long, single}, 0, api.OK}, {1801, []api.Accrual{long}, 0, api.ErrLong}, {1900, []api.Accrual{long}, 0, api.ErrLong}, {1901, []api.Accrual{long}, 0, api.OK}, {1849, []api.Accrual{late}, 0, api.OK}, {1850, []api.Accrual{late}, 0, api.ErrRange}, {1851, []api.Accrual{early, single}, 0, api.OK}, {1850, []api.Accrual{early}, 0, api.ErrRange}, {1700, []api.Accrual{before}, 0, api.OK}, {1700, []api.Accrual{early}, 0, api.ErrRange}, {2099, []api.Accrual{behind}, 0, api.OK}, {2099, []api.Accrual{late}, 0, api.ErrRange}, {2099, []api.Accrual{accrual(d("2099-09-30"), d("2099-09-30"), 5), behind}, 5, api.OK},
		// what can't be cut is told ahead of a sum that is too great
		{1850, []api.Accrual{accrual(d("1850-05-05"), d("1850-05-05"), most), single, late}, 0, api.ErrRange}, {1850, []api.Accrual{accrual(d("1850-05-05"), d("1850-05-05"), most), single}, 0, api.ErrOver},
	} {
		b := accs(x.accs...)
		checkTotal(t, c, unitOf(1, x.y, 1), b, x.n, x.e)
		var all []api.Share
		if x.e == api.OK {
			all = []api.Share{{Unit: unitOf(1, x.y, 1), N: x.n}}
		}
		checkRoll(t, c, 1, x.y, b, all, x.e)
		// an accrual is of the year, if not of the unit
		n, want := int64(0), x.e
		if want == api.ErrOver {
			want = api.OK
		}
		checkTotal(t, c, unitOf(5, x.y, 1), b, n, want)
	}
}

// TestLongAccruals has accruals of just as many weeks as one may have, and one more.
func TestLongAccruals(t *testing.T) {
	for _, c := range probe.Serving(1900, 2099) {
		s := probe.Slowly(c)
		weeks, _ := s.Met(api.WeekL, s.Bounds())
		x := api.Span{From: s.Span(weeks[300]).To, To: s.Span(weeks[300+4095]).From}
		b := accs(api.Accrual{Span: x, N: least}, accrual(x.From, x.To, 12345678))
		for _, u := range []api.Unit{weeks[300], weeks[2000], weeks[300+4095], unitOf(1, weeks[300].Year, 1), unitOf(4, weeks[2000].Year, 2), unitOf(2, weeks[300+4095].Year, 1)} {
			n, e := s.Total(u, b)
			checkTotal(t, c, u, b, n, e)
		}
		x.To = s.Span(weeks[300+4096]).From
		checkTotal(t, c, unitOf(1, weeks[2000].Year, 1), accs(api.Accrual{Span: x, N: 1}), 0, api.ErrLong)
		checkRoll(t, c, 5, weeks[2000].Year, accs(api.Accrual{Span: x, N: 1}), nil, api.ErrLong)
	}
}

// TestGreatSums has sums that just fit, that pass what fits and come back, and that do not fit.
func TestGreatSums(t *testing.T) {
	first, week := dayOf(t, "2023-01-29"), unitOf(5, 2023, 1)
	year := unitOf(1, 2023, 1)
	one := func(n int64) api.Accrual { return accrual(first, first+6, n) }
	for _, x := range []struct {
		b       api.Book
		u       api.Unit
		n       int64
		e, roll api.Errno
	}{
		{posts(post(first, most)), week, most, api.OK, api.OK}, {posts(post(first, most-1), post(first+6, 1)), week, most, api.OK, api.OK}, {posts(post(first, most), post(first+6, 1)), week, 0, api.ErrOver, api.ErrOver}, {posts(post(first, least)), week, least, api.OK, api.OK}, {posts(post(first, least), post(first, -1)), week, 0, api.ErrOver, api.ErrOver}, {posts(post(first, least+1), post(first, -1)), week, least, api.OK, api.OK},
		{posts(post(first, most), post(first, most), post(first, least), post(first, least)), week, -2, api.OK, api.OK}, {posts(post(first, most), post(first+1, most), post(first+2, most), post(first+3, least), post(first+4, least)), week, most - 2, api.OK, api.OK}, {posts(post(first, most), post(first+1, 5), post(first+2, -5)), week, most, api.OK, api.OK}, {posts(post(first, least), post(first, least), post(first, most), post(first, 1)), week, least, api.OK, api.OK},
		{accs(one(most)), week, most, api.OK, api.OK}, {accs(one(most), one(1)), week, 0, api.ErrOver, api.ErrOver}, {accs(one(most), one(1), one(-1)), week, most, api.OK, api.OK}, {accs(one(most), one(most), one(least), one(least)), week, -2, api.OK, api.OK}, {accs(one(least), one(-1)), week, 0, api.ErrOver, api.ErrOver}, {api.Book{Posts: []api.Post{post(first, most)}, Accs: []api.Accrual{one(1)}}, week, 0, api.ErrOver, api.ErrOver}, {api.Book{Posts: []api.Post{post(first, most)}, Accs: []api.Accrual{one(least)}}, week, -1, api.OK, api.OK}, {api.Book{Posts: []api.Post{post(first, 1)}, Accs: []api.Accrual{one(most), one(-1)}}, week, most, api.OK, api.OK},
		// in two weeks of a year, which come back in it, or do not
		{posts(post(first, most), post(first+7, most)), year, 0, api.ErrOver, api.ErrOver}, {posts(post(first, most), post(first+7, -5)), year, most - 5, api.OK, api.OK}, {posts(post(first, most), post(first+1, most), post(first+70, least), post(first+70, 1)), year, most, api.OK, api.OK}, {accs(accrual(first, first+13, most), accrual(first, first+13, most)), week, 0, api.ErrOver, api.ErrOver}, {accs(accrual(first, first+13, most)), week, 1 << 62, api.OK, api.OK}, {accs(accrual(first, first+13, most)), year, most, api.OK, api.OK}, {accs(accrual(first-7, first+6, least)), year, -1 << 62, api.OK, api.OK},
		// beside the year anything may be
		{posts(post(first-1, most), post(first-1, most), post(first, 5)), week, 5, api.OK, api.OK}, {accs(accrual(first-1, first-1, most), accrual(first-1, first-1, most)), year, 0, api.OK, api.OK},
	} {
		checkTotal(t, nrf(), x.u, x.b, x.n, x.e)
		l, e := book.Roll(nrf(), x.u.Level, 2023, x.b)
		if e != x.roll || e == api.OK && l[0].N != x.n {
			t.Errorf("Roll(%v): got %v, %d, want %d, %d", x.b, l, e, x.n, x.roll)
		}
	}
	// a week that is too great is told of its level alone
	b := posts(post(first, most), post(first+1, most), post(first+70, least), post(first+70, 1))
	for level, want := range []api.Errno{1: api.OK, 2: api.OK, 3: api.OK, 4: api.ErrOver, 5: api.ErrOver} {
		if level > 0 {
			if l, e := book.Roll(nrf(), level, 2023, b); e != want || (e == api.OK) != (len(l) > 0) {
				t.Errorf("%d: got %v, %d, want %d", level, l, e, want)
			}
		}
	}
}

// TestFullBook has as many postings and accruals as there may be, of amounts that are together too great on the way.
func TestFullBook(t *testing.T) {
	for _, c := range probe.Serving(2022, 2024)[1:6] {
		s := probe.Slowly(c)
		b := probe.Book(s.Bounds(), 4096, 1<<61, -1<<61, 1<<60, -1<<60, most, -most, 5)
		for _, u := range []api.Unit{unitOf(1, 2023, 1), unitOf(5, 2024, 52)} {
			n, e := s.Total(u, b)
			checkTotal(t, c, u, b, n, e)
		}
		for _, level := range []int{api.QuarterL, api.WeekL} {
			n, first := s.Total(unitOf(level, 2023, 1), b)
			if l, e := book.Roll(c, level, 2023, b); e == api.OK && (l[0].N != n || first != api.OK) || e != api.OK && (e != api.ErrOver || len(l) > 0) {
				t.Fatalf("%+v, level %d: got %v, %d, want %d, %d", c, level, l, e, n, first)
			}
		}
	}
	c, first := nrf(), dayOf(t, "2023-01-29")
	full := api.Book{Posts: slices.Repeat([]api.Post{post(first, most), post(first+1, least)}, 2048), Accs: slices.Repeat([]api.Accrual{accrual(first, first, least), accrual(first, first+6, most)}, 2048)}
	checkTotal(t, c, unitOf(5, 2023, 1), full, -4096, api.OK)
	full.Posts[1].N, full.Posts[3].N = most, most
	checkTotal(t, c, unitOf(5, 2023, 1), full, 0, api.ErrOver)
	full.Posts = append(full.Posts, post(first, least))
	checkTotal(t, c, unitOf(5, 2023, 1), full, 0, api.ErrLong)
	checkRoll(t, c, 5, 2023, full, nil, api.ErrLong)
}

// wrongBooks are books that may not be, and why.
func wrongBooks() map[api.Errno][]api.Book {
	return map[api.Errno][]api.Book{
		api.ErrLong: {{Posts: make([]api.Post, 4097)}, {Accs: make([]api.Accrual, 4097), Posts: posts(post(-1, 0)).Posts}},
		api.ErrDate: {posts(post(-1, 0)), posts(post(0, 0), post(lastDay+1, 0)), accs(accrual(-1, 0, 0)), accs(accrual(0, lastDay+1, 0), accrual(1, 0, 0)), {Posts: posts(post(-1, 0)).Posts, Accs: accs(accrual(1, 0, 0)).Accs}},
		api.ErrArg:  {accs(accrual(1, 0, 0)), accs(accrual(155000, 154999, 5), accrual(-1, 0, 0))},
	}
}

// TestErrors has units that are none, and years that are not served, with books that may be or not: those are told first.
func TestErrors(t *testing.T) {
	for _, c := range append(probe.Serving(2022, 2023), probe.Wrong()...) {
		for e, l := range wrongBooks() {
			for _, b := range l {
				checkUnits(t, c, b, e)
			}
		}
		checkUnits(t, c, api.Book{}, api.OK)
		checkUnits(t, c, accs(accrual(0, lastDay, 5)), api.ErrRange)
	}
}

// checkUnits has units that are none, and one that there is, which tells what is told of the book.
func checkUnits(t *testing.T, c api.Cal, b api.Book, want api.Errno) {
	t.Helper()
	for _, level := range []int{-1, 0, 1, 5, 6, 1<<32 + 1, most, least} {
		for _, y := range []int{2022, 2023, 2021, 2024, 0, 2022 + 1<<32, most, least} {
			if many, e := unit.Count(c, level, y); e != api.OK {
				checkRoll(t, c, level, y, b, nil, e)
			} else if want != api.OK {
				checkRoll(t, c, level, y, b, nil, want)
			} else {
				var l []api.Share
				for i := range many {
					l = append(l, api.Share{Unit: unitOf(level, y, i+1)})
				}
				checkRoll(t, c, level, y, b, l, api.OK)
			}
			for _, n := range []int{1, 0, -1, 61, 1<<32 + 1, most, least} {
				e := unit.Check(c, unitOf(level, y, n))
				if e == api.OK {
					e = want
				}
				checkTotal(t, c, unitOf(level, y, n), b, 0, e)
			}
		}
	}
}

// P22.5

// TestFollows adds the totals of finer units up, and puts beside the year what changes nothing.
func TestFollows(t *testing.T) {
	for _, c := range probe.Serving(2017, 2023) {
		bounds := probe.Slowly(c).Bounds()
		b := probe.Book(bounds, 60, 5, -7, 123456789, -1<<50, 1<<50, 1)
		for y := 2017; y <= 2023; y += 3 {
			around, _ := unit.Span(c, unitOf(1, y, 1))
			more := copyOf(b)
			for _, day := range []int{0, lastDay, bounds.From - 1, bounds.To + 1, around.From - 1, around.To + 1} {
				more.Posts = append(more.Posts, post(day, most))
				more.Accs = append(more.Accs, accrual(day, day, least))
			}
			var totals [api.WeekL + 1][]api.Share
			for level := 1; level <= 5; level++ {
				l, e := book.Roll(c, level, y, b)
				m, f := book.Roll(c, level, y, more)
				if !slices.Equal(l, m) || e != api.OK || f != api.OK {
					t.Fatalf("%+v, %d, %d: got %v, %d, with more %v, %d", c, level, y, l, e, m, f)
				}
				totals[level] = l
			}
			checkFiner(t, c, totals)
		}
	}
}

// checkFiner holds the totals of each level of a year against the sums of those of each finer level.
func checkFiner(t *testing.T, c api.Cal, totals [api.WeekL + 1][]api.Share) {
	t.Helper()
	for _, l := range totals {
		for _, x := range l {
			for finer := x.Level; finer <= 5; finer++ {
				first, last, e := unit.Down(c, x.Unit, finer)
				sum := int64(0)
				for _, y := range totals[finer][first.Index-1 : last.Index] {
					sum += y.N
				}
				if sum != x.N || e != api.OK {
					t.Fatalf("%+v, %v: got %d of level %d, %d", c, x, sum, finer, e)
				}
			}
		}
	}
}

// TestAnswersAreNew writes into what was told, and behind it.
func TestAnswersAreNew(t *testing.T) {
	b := tableBook(t)
	for level := 1; level <= 5; level++ {
		kept, _ := book.Roll(nrf(), level, 2023, b)
		want := slices.Clone(kept)
		l, _ := book.Roll(nrf(), level, 2023, b)
		for i := range l {
			l[i] = api.Share{N: -1}
		}
		_ = append(l, api.Share{N: 9})
		if !slices.Equal(kept, want) || !sameBook(b, tableBook(t)) {
			t.Fatalf("got %v, want %v", kept, want)
		}
		checkRoll(t, nrf(), level, 2023, b, want, api.OK)
	}
}
