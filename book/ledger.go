package book

import (
	"quarterday/api"
	"quarterday/rate"
	"quarterday/unit"
	"quarterday/wide"
)

// ledger is what a year's units are added up of. It is made once for all units of the year, for to cut the accruals is the most of the work.
type ledger struct {
	cal   api.Cal
	posts []api.Post
	parts map[api.Unit]api.Wide // what all accruals' parts of each week come to
}

// open checks a book, and makes the ledger of a year that is served.
func open(c api.Cal, y int, b api.Book) (ledger, api.Errno) {
	if e := Check(b); e != api.OK {
		return ledger{}, e
	}
	l := ledger{c, b.Posts, map[api.Unit]api.Wide{}}
	year, _ := unit.Span(c, api.Unit{Level: api.YearL, Year: y, Index: 1})
	for _, a := range b.Accs {
		if a.To < year.From || a.From > year.To {
			continue
		}
		parts, e := rate.Split(c, api.WeekL, a.N, a.Span)
		if e != api.OK {
			return ledger{}, e
		}
		for _, p := range parts {
			if p.Year == y {
				l.parts[p.Unit] = plus(l.parts[p.Unit], wide.Of(p.N))
			}
		}
	}
	return l, api.OK
}

// total tells what a unit of the year comes to.
func (l ledger) total(u api.Unit) (int64, api.Errno) {
	sum := api.Wide{}
	s, _ := unit.Span(l.cal, u)
	for _, p := range l.posts {
		if p.Day >= s.From && p.Day <= s.To {
			sum = plus(sum, wide.Of(p.N))
		}
	}
	w, last, _ := unit.Down(l.cal, u, api.WeekL)
	for ; w.Index <= last.Index; w.Index++ {
		sum = plus(sum, l.parts[w])
	}
	return wide.Fit(sum)
}

// plus adds up amounts of a book: it has too few of them, each of 64 bits, to need more than 128.
func plus(a, b api.Wide) api.Wide {
	sum, _ := wide.Add(a, b)
	return sum
}
