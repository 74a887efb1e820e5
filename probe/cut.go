package probe

import (
	"slices"

	"quarterday/api"
	"quarterday/civil"
)

// Cut cuts a fiscal year day by day: how many weeks each period has, and its last day.
func Cut(c api.Cal, y int) (weeks, ends []int) {
	from, to := End(c, y-1)+1, End(c, y)
	periods := periods(c, to-from+1 == 371)
	many, days := 0, 0
	for day := from; day <= to; day++ {
		if days%7 == 0 {
			many++
		}
		days++
		if c.Shape <= api.CycleS && days == 7*periods[len(ends)] || c.Shape == api.BroadS && isLastSunday(day) || c.Shape == api.MonthS && isMonthEnd(day) {
			weeks, ends = append(weeks, many), append(ends, day)
			many, days = 0, 0
		}
	}
	return weeks, ends
}

// Units cuts a fiscal year into the units of each level, and tells their days.
func Units(c api.Cal, y int) [api.WeekL + 1][]api.Span {
	from := End(c, y-1) + 1
	_, periods := Cut(c, y)
	quarters := []int{}
	for q := 1; q <= 4; q++ {
		quarters = append(quarters, periods[len(periods)*q/4-1])
	}
	weeks, days := []int{}, 0
	for day := from; day <= End(c, y); day++ {
		days++
		if days%7 == 0 || c.Shape == api.MonthS && isMonthEnd(day) {
			weeks = append(weeks, day)
		}
		if c.Shape == api.MonthS && isMonthEnd(day) {
			days = 0
		}
	}
	return [...][]api.Span{
		api.YearL:    spans(from, quarters[3]),
		api.HalfL:    spans(from, quarters[1], quarters[3]),
		api.QuarterL: spans(from, quarters...),
		api.PeriodL:  spans(from, periods...),
		api.WeekL:    spans(from, weeks...),
	}
}

// spans are those that follow one another from a day on, and end on the days that are told.
func spans(from int, ends ...int) []api.Span {
	var l []api.Span
	for _, to := range ends {
		l = append(l, api.Span{From: from, To: to})
		from = to + 1
	}
	return l
}

// periods writes out how many weeks the periods have of shapes that say it.
func periods(c api.Cal, long bool) []int {
	var l []int
	switch c.Shape {
	case api.PatS:
		l = slices.Repeat(c.Pat[:], 4)
	case api.FourS:
		l = slices.Repeat([]int{4}, 13)
	case api.CycleS:
		l = slices.Repeat([]int{c.Cycle}, 52/c.Cycle)
	}
	if long && l != nil {
		l[c.Extra-1]++
	}
	return l
}

func isMonthEnd(day int) bool {
	next, e := civil.Of(day + 1)
	return e == api.OK && next.D == 1
}

func isLastSunday(day int) bool {
	weekday, _ := civil.Weekday(day)
	this, _ := civil.Of(day)
	next, _ := civil.Of(day + 7)
	return weekday == 7 && this.M != next.M
}
