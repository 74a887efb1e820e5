package field

import "quarterday/api"

// How many weeks all periods have together, but for one that was added, and how many periods there are of months, or of a pattern's weeks.
const (
	weeksOfYear = 52
	months      = 12
)

// end is what the key of that name says by itself, and what it leaves to its words (the weekday, the month), and to other keys (how the year is named, and how it is cut).
type end struct {
	said                   api.Cal
	day, month, named, cut bool
}

// endOf tells the end that makes calendars of a kind, if there is one.
func endOf(kind int) (end, bool) {
	switch kind {
	case api.LastR, api.NearR:
		return end{said: api.Cal{Kind: kind}, day: true, month: true, named: true, cut: true}, true
	case api.NrfR:
		return end{said: api.Cal{Kind: kind, Day: 6, Month: 1, Shift: 1, Shape: api.PatS, Pat: [3]int{4, 5, 4}, Extra: months}}, true
	case api.BroadR:
		return end{said: api.Cal{Kind: kind, Day: 7, Month: 12, Shape: api.BroadS, Extra: months}}, true
	case api.IsoR:
		return end{said: api.Cal{Kind: kind, Day: 7, Month: 12}, cut: true}, true
	case api.MonthR:
		return end{said: api.Cal{Kind: kind, Shape: api.MonthS}, month: true, named: true}, true
	}
	return end{}, false
}

// tell puts into c what the end says by itself, and leaves alone what it leaves to others.
func (x end) tell(c *api.Cal) {
	c.Kind = x.said.Kind
	if !x.day {
		c.Day = x.said.Day
	}
	if !x.month {
		c.Month = x.said.Month
	}
	if !x.named {
		c.Shift = x.said.Shift
	}
	if !x.cut {
		c.Shape, c.Pat, c.Cycle, c.Extra = x.said.Shape, x.said.Pat, x.said.Cycle, x.said.Extra
	}
}

// allows tells whether c says what the end says by itself, and else what its words and other keys can say.
func (x end) allows(c api.Cal) bool {
	told := c
	x.tell(&told)
	return told == c &&
		(!x.day || within(c.Day, 1, len(dayNames))) &&
		(!x.month || within(c.Month, 1, len(monthNames))) &&
		(!x.named || within(c.Shift, 0, 1)) &&
		(!x.cut || rightCut(c))
}

// stands tells whether a key stands with the end.
func (x end) stands(key int) bool {
	switch key {
	case namedKey:
		return x.named
	case periodsKey, payKey, extraKey:
		return x.cut
	}
	return true
}

// rightCut tells whether c is cut as keys can say.
func rightCut(c api.Cal) bool {
	like := api.Cal{Shape: c.Shape}
	var may bool
	switch c.Shape {
	case api.PatS:
		like.Pat, may = c.Pat, number(patterns, c.Pat) > 0
	case api.FourS:
		may = true
	case api.CycleS:
		like.Cycle, may = c.Cycle, number(cycles, c.Cycle) > 0
	}
	return may && c.Pat == like.Pat && c.Cycle == like.Cycle && within(c.Extra, 1, periods(c))
}

// periods tells how many periods there are in a year of a calendar that is cut as it may be.
func periods(c api.Cal) int {
	switch c.Shape {
	case api.FourS:
		return weeksOfYear / fourWeeks
	case api.CycleS:
		return weeksOfYear / c.Cycle
	}
	return months
}
