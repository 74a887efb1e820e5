package probe

import (
	"quarterday/api"
	"quarterday/share"
	"quarterday/wide"
)

// Book has as many postings, and accruals, of days that are spread by a fixed rule from a first to a last one, of amounts that are taken in turn.
func Book(days api.Span, many int, amounts ...int64) api.Book {
	state := uint64(many)
	spread := func(least, most int) int {
		state = state*6364136223846793005 + 1442695040888963407
		return least + int(state>>33)%(most-least+1)
	}
	var b api.Book
	for i := range many {
		n := amounts[i%len(amounts)]
		b.Posts = append(b.Posts, api.Post{Day: spread(days.From, days.To), N: n})
		from := spread(days.From, days.To)
		// Of three accruals one is as long as may be, one a few weeks, and one a few days.
		longest := [...]int{days.To, from + 40, from + 5}[i%3]
		b.Accs = append(b.Accs, api.Accrual{Span: api.Span{From: from, To: spread(from, min(longest, days.To))}, N: n})
	}
	return b
}

// Met are the units of a level in which days of a span lie, and how many of its days lie in each.
func (s Slow) Met(level int, x api.Span) ([]api.Unit, []int64) {
	var units []api.Unit
	var days []int64
	for y := s.Cal.First; y <= s.Cal.Last; y++ {
		if around := s.Years[y].Days(); around.To < x.From || around.From > x.To {
			continue
		}
		for i, whole := range s.Years[y].Units[level] {
			many := int64(0)
			for day := whole.From; day <= whole.To; day++ {
				if day >= x.From && day <= x.To {
					many++
				}
			}
			if many > 0 {
				units, days = append(units, api.Unit{Level: level, Year: y, Index: i + 1}), append(days, many)
			}
		}
	}
	return units, days
}

// Bounds are all days that are served.
func (s Slow) Bounds() api.Span {
	return api.Span{From: s.Years[s.Cal.First].Days().From, To: s.Years[s.Cal.Last].Days().To}
}

// Span are the days of a unit that there is.
func (s Slow) Span(u api.Unit) api.Span { return s.Years[u.Year].Units[u.Level][u.Index-1] }

// Total is what a unit that there is comes to in a book that may be.
func (s Slow) Total(u api.Unit, b api.Book) (int64, api.Errno) {
	l, e := s.amounts(u, b)
	if e != api.OK {
		return 0, e
	}
	return wide.Sum(l...)
}

// amounts are what a unit comes to: the postings of its days, and the parts of accruals of its weeks.
func (s Slow) amounts(u api.Unit, b api.Book) ([]int64, api.Errno) {
	var l []int64
	own := s.Span(u)
	for _, p := range b.Posts {
		if p.Day >= own.From && p.Day <= own.To {
			l = append(l, p.N)
		}
	}
	year := s.Years[u.Year].Days()
	for _, a := range b.Accs {
		if a.To < year.From || a.From > year.To {
			continue
		}
		if bounds := s.Bounds(); a.From < bounds.From || a.To > bounds.To {
			return nil, api.ErrRange
		}
		weeks, days := s.Met(api.WeekL, a.Span)
		parts, e := share.Split(a.N, days)
		if e != api.OK {
			return nil, e
		}
		for i, w := range weeks {
			if x := s.Span(w); x.From >= own.From && x.To <= own.To {
				l = append(l, parts[i])
			}
		}
	}
	return l, api.OK
}
