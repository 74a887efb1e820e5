package script

import (
	"strings"

	"quarterday/api"
	"quarterday/book"
	"quarterday/comp"
	"quarterday/conf"
	"quarterday/find"
	"quarterday/rate"
	"quarterday/twin"
	"quarterday/unit"
	"quarterday/vary"
)

// What is told when a book has one more, and in place of an amount that is not there.
const (
	done = "ok"
	gone = "gone"
)

// perform does an operation that may be. The book that it tells shares its lists with b, if nothing was put into it; with an error, all else that is told means nothing.
func perform(l []api.Cal, b api.Book, o api.Op) ([]string, api.Book, api.Errno) {
	switch o.Kind {
	case api.PostO:
		next, e := book.Put(b, api.Post{Day: o.From, N: o.N})
		return []string{done}, next, e
	case api.AccrueO:
		next, e := book.Accrue(b, api.Accrual{Span: api.Span{From: o.From, To: o.To}, N: o.N})
		return []string{done}, next, e
	}
	c, e := conf.Find(l, o.Cal)
	if e != api.OK {
		return nil, b, e
	}
	lines, e := ask(c, b, o)
	return lines, b, e
}

// ask tells the lines of an operation that leaves the book as it is; with an error, they mean nothing.
func ask(c api.Cal, b api.Book, o api.Op) ([]string, api.Errno) {
	switch o.Kind {
	case api.DayO:
		u, e := find.Day(c, o.From, o.Level)
		return []string{unitText(u)}, e
	case api.SpanO:
		s, e := unit.Span(c, o.Unit)
		return []string{spanText(s)}, e
	case api.ListO:
		l, e := find.All(c, o.Level, o.Year, o.Year)
		return each(l, func(u api.Unit) string { return lineOfUnit(c, u) }), e
	case api.CompO:
		day, e := comp.Day(c, o.From, o.K)
		return []string{dayText(day)}, e
	case api.TwinO:
		l, e := twin.Runs(c, o.Unit, o.K)
		return each(l, spanText), e
	case api.SplitO:
		l, e := rate.Split(c, o.Level, o.N, api.Span{From: o.From, To: o.To})
		return each(l, lineOfShare), e
	case api.RollO:
		l, e := book.Roll(c, o.Level, o.Year, b)
		return each(l, lineOfShare), e
	}
	l, e := vary.Table(c, o.Level, o.Year, o.K, b)
	return each(l, lineOfRow), e
}

// each makes a line of each of a list.
func each[T any](l []T, line func(x T) string) []string {
	lines := make([]string, len(l))
	for i, x := range l {
		lines[i] = line(x)
	}
	return lines
}

// spaced puts words together, with one blank between two.
func spaced(words ...string) string { return strings.Join(words, blank) }

func spanText(s api.Span) string { return spaced(dayText(s.From), dayText(s.To)) }

func lineOfUnit(c api.Cal, u api.Unit) string {
	s, _ := unit.Span(c, u)
	return spaced(unitText(u), spanText(s))
}

func lineOfShare(s api.Share) string { return spaced(unitText(s.Unit), amountText(s.N)) }

func lineOfRow(r api.Row) string {
	that := amountText(r.That)
	if r.Gone {
		that = gone
	}
	return spaced(unitText(r.Unit), amountText(r.This), that, amountText(r.Diff))
}
