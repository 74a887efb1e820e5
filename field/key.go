package field

import (
	"slices"

	"quarterday/api"
)

// The keys, as keyNames has them.
const (
	endKey = 1 + iota
	namedKey
	periodsKey
	payKey
	extraKey
	serveKey
	compareKey
)

// fourWeeks is the word of `periods` that alone says how long each one is.
const fourWeeks = 4

// What names and words may be. Each one's place, from 1 on, is its number; but Shift is counted from 0 on.
var (
	keyNames    = []string{"end", "named", "periods", "pay", "extra", "serve", "compare"}
	endNames    = []string{"last", "near", "nrf", "broadcast", "iso", "month"}
	dayNames    = []string{"mon", "tue", "wed", "thu", "fri", "sat", "sun"}
	monthNames  = []string{"jan", "feb", "mar", "apr", "may", "jun", "jul", "aug", "sep", "oct", "nov", "dec"}
	shiftNames  = []string{"last", "first"}
	policyNames = []string{"start", "shift", "drop", "clamp"}
	patterns    = [][3]int{{5, 4, 4}, {4, 5, 4}, {4, 4, 5}}
	cycles      = []int{1, 2, 4}
)

// number tells which of a table x is, from 1 on, or 0, if it is none of it.
func number[T comparable](table []T, x T) int { return slices.Index(table, x) + 1 }

// keyName tells a key's name. It says the names of keyNames over again, because that table is only read on the spot: none of its texts goes on into an answer.
func keyName(key int) string {
	switch key {
	case endKey:
		return "end"
	case namedKey:
		return "named"
	case periodsKey:
		return "periods"
	case payKey:
		return "pay"
	case extraKey:
		return "extra"
	case serveKey:
		return "serve"
	case compareKey:
		return "compare"
	}
	return ""
}

// instead tells which key stands in another one's place, 0 if none does.
func instead(key int) int {
	switch key {
	case periodsKey:
		return payKey
	case payKey:
		return periodsKey
	}
	return 0
}

// readers are what reads the words of each key into a calendar, and tells whether they are such.
func readers() map[int]func(c *api.Cal, words []api.Word) bool {
	return map[int]func(c *api.Cal, words []api.Word) bool{
		endKey:     readEnd,
		namedKey:   readNamed,
		periodsKey: readPeriods,
		payKey:     readPay,
		extraKey:   readExtra,
		serveKey:   readServe,
		compareKey: readCompare,
	}
}

func readEnd(c *api.Cal, words []api.Word) bool {
	kind, rest := take(words, endNames)
	x, may := endOf(kind)
	x.tell(c)
	if x.day {
		c.Day, rest = take(rest, dayNames)
		may = may && c.Day > 0
	}
	if x.month {
		c.Month, rest = take(rest, monthNames)
		may = may && c.Month > 0
	}
	return may && len(rest) == 0
}

func readNamed(c *api.Cal, words []api.Word) bool {
	named := choose(words, shiftNames)
	c.Shift = named - 1
	return named > 0
}

func readPeriods(c *api.Cal, words []api.Word) bool {
	switch l := numbers(words); len(l) {
	case 1:
		c.Shape = api.FourS
		return l[0] == fourWeeks
	case 3:
		c.Shape, c.Pat = api.PatS, [3]int(l)
		return number(patterns, c.Pat) > 0
	}
	return false
}

func readPay(c *api.Cal, words []api.Word) bool {
	l := numbers(words)
	if len(l) != 1 {
		return false
	}
	c.Shape, c.Cycle = api.CycleS, l[0]
	return number(cycles, c.Cycle) > 0
}

func readExtra(c *api.Cal, words []api.Word) bool {
	l := numbers(words)
	if len(l) != 1 {
		return false
	}
	c.Extra = l[0]
	return within(c.Extra, 1, weeksOfYear)
}

func readServe(c *api.Cal, words []api.Word) bool {
	l := numbers(words)
	if len(l) != 2 {
		return false
	}
	c.First, c.Last = l[0], l[1]
	return true
}

func readCompare(c *api.Cal, words []api.Word) bool {
	c.Policy = choose(words, policyNames)
	return c.Policy > 0
}

// choose tells which of a table's names a word that is alone is, 0 if it is none, or not alone.
func choose(words []api.Word, table []string) int {
	n, rest := take(words, table)
	if len(rest) > 0 {
		return 0
	}
	return n
}

// take tells which of a table's names the first word is, 0 if it is none, and the words behind it.
func take(words []api.Word, table []string) (int, []api.Word) {
	if len(words) == 0 {
		return 0, nil
	}
	return number(table, words[0].S), words[1:]
}

// numbers tells the numbers that words are, none if one of them is a name.
func numbers(words []api.Word) []int {
	var l []int
	for _, w := range words {
		if !w.Num {
			return nil
		}
		l = append(l, w.N)
	}
	return l
}

// keysOf are the keys that tell a calendar that may be.
func keysOf(c api.Cal) []api.Node {
	x, _ := endOf(c.Kind)
	l := []api.Node{key(endKey, x.words(c)...)}
	if x.named {
		l = append(l, key(namedKey, nameWord(shiftNames[c.Shift])))
	}
	if x.cut {
		l = append(l, cutKey(c), key(extraKey, numWords(c.Extra)...))
	}
	return append(l, key(serveKey, numWords(c.First, c.Last)...), key(compareKey, nameWord(policyNames[c.Policy-1])))
}

// words are those of the end of c.
func (x end) words(c api.Cal) []api.Word {
	l := []api.Word{nameWord(endNames[c.Kind-1])}
	if x.day {
		l = append(l, nameWord(dayNames[c.Day-1]))
	}
	if x.month {
		l = append(l, nameWord(monthNames[c.Month-1]))
	}
	return l
}

// cutKey is the key that tells how c is cut.
func cutKey(c api.Cal) api.Node {
	switch c.Shape {
	case api.FourS:
		return key(periodsKey, numWords(fourWeeks)...)
	case api.CycleS:
		return key(payKey, numWords(c.Cycle)...)
	}
	return key(periodsKey, numWords(c.Pat[:]...)...)
}

func key(number int, words ...api.Word) api.Node {
	return api.Node{Name: keyName(number), Words: words}
}

func nameWord(s string) api.Word { return api.Word{S: s} }

func numWords(l ...int) []api.Word {
	var words []api.Word
	for _, n := range l {
		words = append(words, api.Word{Num: true, N: n})
	}
	return words
}
