package probe

import (
	"quarterday/api"
	"quarterday/civil"
)

// Twins compares units week by week, by days that are compared slowly.
type Twins struct {
	Slow
	weekFrom map[int]api.Unit // by their first days
}

// Twinned cuts the years that a calendar serves, and tells their weeks.
func Twinned(c api.Cal) Twins {
	s := Twins{Slowly(c), map[int]api.Unit{}}
	for y, f := range s.Years {
		for i, x := range f.Units[api.WeekL] {
			s.weekFrom[x.From] = api.Unit{Level: api.WeekL, Year: y, Index: i + 1}
		}
	}
	return s
}

// Weeks are those that a unit that there is is compared with, in the year t or beside it.
func (s Twins) Weeks(u api.Unit, t int) ([]api.Unit, api.Errno) {
	if t < s.Cal.First || t > s.Cal.Last {
		return nil, api.ErrRange
	}
	var l []api.Unit
	if s.Cal.Kind == api.MonthR && u.Level < api.WeekL {
		l = s.within(s.Years[t].Units[u.Level][u.Index-1])
	} else {
		for _, w := range s.within(s.Span(u)) {
			other, e := s.week(u.Year, t, s.Span(w).From)
			if e == api.ErrRange {
				return nil, e
			}
			if e == api.OK {
				l = append(l, other)
			}
		}
	}
	if len(l) == 0 {
		return nil, api.ErrGone
	}
	return l, api.OK
}

// within are the weeks that begin in a span.
func (s Twins) within(x api.Span) []api.Unit {
	var l []api.Unit
	for day := x.From; day <= x.To; day++ {
		if u, there := s.weekFrom[day]; there {
			l = append(l, u)
		}
	}
	return l
}

// week is the one with which that is compared which begins on a day of y.
func (s Twins) week(y, t, day int) (api.Unit, api.Errno) {
	if s.Cal.Kind == api.MonthR {
		d, _ := civil.Of(day)
		d.Y += t - y
		// A month that is too short has no such week.
		other, e := civil.Day(d)
		if e != api.OK {
			return api.Unit{}, api.ErrGone
		}
		return s.weekFrom[other], api.OK
	}
	other, e := s.Day(y, t, day)
	if e != api.OK {
		return api.Unit{}, e
	}
	if u, there := s.weekFrom[other]; there {
		return u, api.OK
	}
	return api.Unit{}, api.ErrRange
}
