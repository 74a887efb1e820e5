package probe

import (
	"quarterday/api"
	"quarterday/civil"
)

// Cals are calendars that may be: the first six of one kind of ends each, in the order of kinds, and all of them of each shape and policy.
func Cals() []api.Cal {
	return []api.Cal{
		{Name: "l", Kind: api.LastR, Day: 5, Month: 8, Shape: api.FourS, Extra: 13, First: 2000, Last: 2001, Policy: api.DropP},
		{Name: "n", Kind: api.NearR, Day: 1, Month: 12, Shift: 1, Shape: api.PatS, Pat: [3]int{5, 4, 4}, Extra: 1, First: 2000, Last: 2399, Policy: api.FromP},
		{Name: "r", Kind: api.NrfR, Day: 6, Month: 1, Shift: 1, Shape: api.PatS, Pat: [3]int{4, 5, 4}, Extra: 12, First: 2000, Last: 2030, Policy: api.ShiftP},
		{Name: "b", Kind: api.BroadR, Day: 7, Month: 12, Shape: api.BroadS, Extra: 12, First: 1602, Last: 2001, Policy: api.DropP},
		{Name: "i", Kind: api.IsoR, Day: 7, Month: 12, Shape: api.CycleS, Cycle: 2, Extra: 26, First: 9996, Last: 9996, Policy: api.FromP},
		{Name: "m", Kind: api.MonthR, Month: 9, Shape: api.MonthS, First: 2000, Last: 2001, Policy: api.ClampP},
		{Name: "abcdefghijklmnop", Kind: api.LastR, Day: 7, Month: 1, Shift: 1, Shape: api.CycleS, Cycle: 1, Extra: 52, First: 9597, Last: 9996, Policy: api.ShiftP},
		{Name: "x-9", Kind: api.MonthR, Month: 12, Shift: 1, Shape: api.MonthS, First: 1602, Last: 1602, Policy: api.ClampP},
		{Name: "pay", Kind: api.NearR, Day: 3, Month: 2, Shape: api.CycleS, Cycle: 4, Extra: 7, First: 1602, Last: 2001, Policy: api.DropP},
		{Name: "y", Kind: api.MonthR, Month: 2, Shape: api.MonthS, First: 9597, Last: 9996, Policy: api.ClampP},
	}
}

// Serving are calendars of each kind of ends and each shape, also with the week that was added in the middle, that serve the same years.
func Serving(first, last int) []api.Cal {
	l := append(Cals(),
		api.Cal{Name: "s", Kind: api.LastR, Day: 6, Month: 9, Shape: api.PatS, Pat: [3]int{4, 4, 5}, Extra: 8, Policy: api.ShiftP},
		api.Cal{Name: "f", Kind: api.NearR, Day: 7, Month: 12, Shape: api.FourS, Extra: 1, Policy: api.DropP},
		api.Cal{Name: "w", Kind: api.IsoR, Day: 7, Month: 12, Shape: api.CycleS, Cycle: 1, Extra: 20, Policy: api.DropP},
	)
	for i := range l {
		l[i].First, l[i].Last = first, last
	}
	return l
}

// EachPolicy hands on a calendar with each policy that it may have.
func EachPolicy(c api.Cal, do func(c api.Cal)) {
	if c.Kind == api.MonthR {
		do(c)
		return
	}
	for policy := api.FromP; policy <= api.DropP; policy++ {
		c.Policy = policy
		do(c)
	}
}

// Wrong are calendars that may not be: nothing, and each that may be with one thing wrong in it.
func Wrong() []api.Cal {
	l := []api.Cal{{}, {Name: "a"}, Whole(api.Cal{}), Whole(api.Cal{Kind: 7})}
	for _, c := range Cals() {
		for _, spoil := range []func(c *api.Cal){
			func(c *api.Cal) { c.Name = "" },
			func(c *api.Cal) { c.Name = "A" },
			func(c *api.Cal) { c.Name = "abcdefghijklmnopq" },
			func(c *api.Cal) { c.Kind = 0 },
			func(c *api.Cal) { c.Kind = 7 },
			func(c *api.Cal) { c.Day = 8 },
			func(c *api.Cal) { c.Month = 13 },
			func(c *api.Cal) { c.Month = -1 << 63 },
			func(c *api.Cal) { c.Shift = 2 },
			func(c *api.Cal) { c.Shape = 6 },
			func(c *api.Cal) { c.Pat[1]++ },
			func(c *api.Cal) { c.Cycle = 3 },
			func(c *api.Cal) { c.Extra += 52 },
			func(c *api.Cal) { c.First = -1 << 63 },
			func(c *api.Cal) { c.Last = 1<<63 - 1 },
			func(c *api.Cal) { c.Policy = 0 },
		} {
			d := c
			spoil(&d)
			l = append(l, d)
		}
	}
	return l
}

// Whole adds a name, years and a policy to what keys say of a rule and a shape, so that the calendar may be.
func Whole(c api.Cal) api.Cal {
	c.Name, c.First, c.Last, c.Policy = "c", 2000, 2030, 1+c.Kind%3
	if c.Kind == api.MonthR {
		c.Policy = api.ClampP
	}
	return c
}

// EachRule hands on all that keys can say of a rule, and of no shape but those that ends say.
func EachRule(do func(c api.Cal)) {
	for kind := api.LastR; kind <= api.NearR; kind++ {
		for day := range 7 {
			for month := range 12 {
				do(api.Cal{Kind: kind, Day: day + 1, Month: month + 1})
				do(api.Cal{Kind: kind, Day: day + 1, Month: month + 1, Shift: 1})
			}
		}
	}
	do(api.Cal{Kind: api.NrfR, Day: 6, Month: 1, Shift: 1, Shape: api.PatS, Pat: [3]int{4, 5, 4}, Extra: 12})
	do(api.Cal{Kind: api.BroadR, Day: 7, Month: 12, Shape: api.BroadS, Extra: 12})
	do(api.Cal{Kind: api.IsoR, Day: 7, Month: 12})
	for month := range 12 {
		do(api.Cal{Kind: api.MonthR, Month: month + 1, Shape: api.MonthS})
		do(api.Cal{Kind: api.MonthR, Month: month + 1, Shift: 1, Shape: api.MonthS})
	}
}

// EachCal hands on a calendar of each rule: one of thirteen periods, if its end says no shape.
func EachCal(do func(c api.Cal)) {
	EachRule(func(c api.Cal) {
		if c.Shape == 0 {
			c.Shape, c.Extra = api.FourS, 13
		}
		do(Whole(c))
	})
}

// EachCut hands on a rule with each shape that it may have: itself, if its end says the shape.
func EachCut(c api.Cal, do func(c api.Cal)) {
	if c.Shape != 0 {
		do(c)
		return
	}
	cut := func(shape int, pat [3]int, cycle, periods int) {
		for extra := range periods {
			d := c
			d.Shape, d.Pat, d.Cycle, d.Extra = shape, pat, cycle, extra+1
			do(d)
		}
	}
	cut(api.PatS, [3]int{5, 4, 4}, 0, 12)
	cut(api.PatS, [3]int{4, 5, 4}, 0, 12)
	cut(api.PatS, [3]int{4, 4, 5}, 0, 12)
	cut(api.FourS, [3]int{}, 0, 13)
	cut(api.CycleS, [3]int{}, 1, 52)
	cut(api.CycleS, [3]int{}, 2, 26)
	cut(api.CycleS, [3]int{}, 4, 13)
}

// End looks day by day for the one on which a fiscal year ends, 1600 to 9997.
func End(c api.Cal, y int) int {
	next := api.Date{Y: y + c.Shift, M: c.Month + 1, D: 1}
	if next.M > 12 {
		next.Y, next.M = next.Y+1, 1
	}
	day, _ := civil.Day(next)
	day--
	switch c.Kind {
	case api.NearR, api.NrfR, api.IsoR:
		// Of the seven days that end three days behind the month, just one has the weekday.
		day += 3
	case api.MonthR:
		return day
	}
	for {
		if weekday, _ := civil.Weekday(day); weekday == c.Day {
			return day
		}
		day--
	}
}
