package unit

import (
	"sort"

	"quarterday/anchor"
	"quarterday/api"
	"quarterday/field"
	"quarterday/shape"
)

const (
	daysOfWeek     = 7
	halves         = 2
	quarters       = 4
	quartersOfHalf = quarters / halves
)

// fiscal is a fiscal year that is served, of a calendar that may be: so nothing that is asked of other layers about it is refused.
type fiscal struct {
	cal    api.Cal
	number int
}

// count tells how many units of a level the year has.
func (y fiscal) count(level int) int {
	switch level {
	case api.HalfL:
		return halves
	case api.QuarterL:
		return quarters
	case api.PeriodL:
		many, _ := field.Periods(y.cal)
		return many
	case api.WeekL:
		return y.weeks()
	}
	return 1
}

// weeks tells how many weeks the year has.
func (y fiscal) weeks() int {
	if !y.byMonths() {
		many, _ := anchor.Weeks(y.cal, y.number)
		return many
	}
	all := 0
	each, _ := shape.Weeks(y.cal, y.number)
	for _, many := range each {
		all += many
	}
	return all
}

// span tells the days of the unit n of a level.
func (y fiscal) span(level, n int) api.Span {
	spans := [...]func(y fiscal, n int) api.Span{
		api.YearL:    fiscal.year,
		api.HalfL:    fiscal.half,
		api.QuarterL: fiscal.quarter,
		api.PeriodL:  fiscal.period,
		api.WeekL:    fiscal.week,
	}
	return spans[level](y, n)
}

func (y fiscal) year(int) api.Span {
	from, _ := anchor.Start(y.cal, y.number)
	to, _ := anchor.End(y.cal, y.number)
	return api.Span{From: from, To: to}
}

func (y fiscal) half(n int) api.Span {
	last := n * quartersOfHalf
	return api.Span{From: y.quarter(last - quartersOfHalf + 1).From, To: y.quarter(last).To}
}

func (y fiscal) quarter(n int) api.Span {
	return api.Span{From: y.period(y.periodsTo(n-1) + 1).From, To: y.period(y.periodsTo(n)).To}
}

// periodsTo tells how many periods there are to the end of the quarter q.
func (y fiscal) periodsTo(q int) int {
	return sort.Search(y.count(api.PeriodL), func(i int) bool {
		of, _ := shape.Quarter(y.cal, i+1)
		return of > q
	})
}

func (y fiscal) period(n int) api.Span {
	ends, _ := shape.Ends(y.cal, y.number)
	if n == 1 {
		return api.Span{From: y.year(1).From, To: ends[0]}
	}
	return api.Span{From: ends[n-2] + 1, To: ends[n-1]}
}

func (y fiscal) week(n int) api.Span {
	around := y.year(1)
	if y.byMonths() {
		around, n = y.monthOf(n)
	}
	from := around.From + (n-1)*daysOfWeek
	return api.Span{From: from, To: min(from+daysOfWeek-1, around.To)}
}

// monthOf tells the days of the month in which the week n of a year by months lies, and which week of the month it is.
func (y fiscal) monthOf(n int) (api.Span, int) {
	each, _ := shape.Weeks(y.cal, y.number)
	p := 1
	for n > each[p-1] {
		n -= each[p-1]
		p++
	}
	return y.period(p), n
}

// byMonths tells whether weeks begin anew with each period.
func (y fiscal) byMonths() bool { return y.cal.Shape == api.MonthS }
