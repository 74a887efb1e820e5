package probe

import (
	"quarterday/api"
	"quarterday/civil"
)

// Slow compares days with days, by the weeks of years that are cut day by day.
type Slow struct {
	Cal   api.Cal
	Years map[int]Fiscal
}

// Fiscal is a fiscal year: the days of its units by levels, and the number of the week that was added.
type Fiscal struct {
	Units [api.WeekL + 1][]api.Span
	Added int
}

// Slowly cuts the years that a calendar serves.
func Slowly(c api.Cal) Slow {
	s := Slow{c, map[int]Fiscal{}}
	for y := c.First; y <= c.Last; y++ {
		f := Fiscal{Units: Units(c, y)}
		if c.Kind != api.MonthR && f.Many() == 53 {
			weeks, _ := Cut(c, y)
			for _, many := range weeks[:c.Extra] {
				f.Added += many
			}
		}
		s.Years[y] = f
	}
	return s
}

// Days are those of the year.
func (f Fiscal) Days() api.Span { return f.Units[api.YearL][0] }

// Many is how many weeks the year has.
func (f Fiscal) Many() int { return len(f.Units[api.WeekL]) }

// counted are the weeks but for the one that was added.
func (f Fiscal) counted() []int {
	var l []int
	for w := 1; w <= f.Many(); w++ {
		if w != f.Added {
			l = append(l, w)
		}
	}
	return l
}

// Week compares the week w of the year y with one that is counted from the first one of t.
func (s Slow) Week(y, t, w int) (int, api.Errno) {
	a, b := s.Years[y], s.Years[t]
	switch s.Cal.Policy {
	case api.FromP:
		return w, api.OK
	case api.ShiftP:
		return b.Many() - (a.Many() - w), api.OK
	}
	if w == a.Added {
		if b.Added == 0 {
			return 0, api.ErrGone
		}
		return b.Added, api.OK
	}
	for i, x := range a.counted() {
		if x == w {
			return b.counted()[i], api.OK
		}
	}
	return 0, api.ErrNone
}

// Day compares a day of the year y with one of t, or of the week beside it.
func (s Slow) Day(y, t, day int) (int, api.Errno) {
	if s.Cal.Kind == api.MonthR {
		d, _ := civil.Of(day)
		d.Y += t - y
		length, _ := civil.Length(d.Y, d.M)
		d.D = min(d.D, length)
		return civil.Day(d)
	}
	from := s.Years[y].Days().From
	w, e := s.Week(y, t, 1+(day-from)/7)
	if e != api.OK {
		return 0, e
	}
	return s.Years[t].Days().From + 7*(w-1) + (day-from)%7, api.OK
}
