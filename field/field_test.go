package field

import (
	"fmt"
	"math/rand/v2"
	"regexp"
	"slices"
	"strconv"
	"strings"
	"testing"

	"quarterday/api"
	"quarterday/probe"
	"quarterday/tree"
)

const (
	least = -1 << 63
	most  = 1<<63 - 1
	// name16 is as long as a name may be.
	name16 = "abcdefghijklmnop"
)

// blockOf reads the one block of a text.
func blockOf(t *testing.T, s string) api.Node {
	t.Helper()
	l, at, e := tree.Parse(s)
	if len(l) != 1 || e != api.OK {
		t.Fatalf("%s: got %d items, %d, %d", s, len(l), at, e)
	}
	return l[0]
}

// checkRead holds what Read tells against all of what it should.
func checkRead(t *testing.T, n api.Node, want api.Cal, wantAt int, wantE api.Errno) {
	t.Helper()
	if c, at, e := Read(n); c != want || at != wantAt || e != wantE {
		t.Errorf("Read(%s): got %+v, %d, %d, want %+v, %d, %d", show(n), c, at, e, want, wantAt, wantE)
	}
}

// checkText does so with a text's block. Where it is refused, `!` stands in the text ahead of the place.
func checkText(t *testing.T, s string, want api.Cal, wantE api.Errno) {
	t.Helper()
	at := max(0, strings.Index(s, "!"))
	checkRead(t, blockOf(t, strings.Replace(s, "!", "", 1)), want, at, wantE)
}

// show writes an item, with all that is in it.
func show(n api.Node) string {
	s := fmt.Sprintf("%d:%q", n.At, n.Name)
	for _, w := range n.Words {
		s += fmt.Sprintf(" %d:%v,%d,%q", w.At, w.Num, w.N, w.S)
	}
	if n.Block {
		s += " {"
	}
	for _, k := range n.Kids {
		s += " " + show(k) + ";"
	}
	return s
}

// eachCal hands on all that keys can say of a rule and a shape.
func eachCal(do func(c api.Cal)) {
	probe.EachRule(func(c api.Cal) { probe.EachCut(c, do) })
}

// texts are blocks that tell the first ones of probe's calendars, with keys in any order.
var texts = []string{
	"calendar l { end last fri aug; named last; periods 4; extra 13; serve 2000 2001; compare drop; }",
	"calendar n { compare start; extra 1; periods 5 4 4; named first; serve 2000 2399; end near mon dec; }",
	"calendar r { end nrf; serve 2000 2030; compare shift; }",
	"calendar b { compare drop; serve 1602 2001; end broadcast; }",
	"calendar i { extra 26; pay 2; end iso; serve 9996 9996; compare start; }",
	"calendar m { end month sep; named last; serve 2000 2001; compare clamp; }",
	"calendar " + name16 + " { named first; pay 1; serve 9597 9996; extra 52; end last sun jan; compare shift; }",
	"calendar x-9 { serve 1602 1602; named first; compare clamp; end month dec; }",
}

// parts are the numbers in a calendar.
func parts(c *api.Cal) []*int {
	return []*int{&c.Kind, &c.Day, &c.Month, &c.Shift, &c.Shape, &c.Pat[0], &c.Pat[1], &c.Pat[2], &c.Cycle, &c.Extra, &c.First, &c.Last, &c.Policy}
}

// P11.1

// TestCheckEachRule holds all that keys can say, and each with one part changed, against the list of it.
func TestCheckEachRule(t *testing.T) {
	may := map[api.Cal]bool{}
	eachCal(func(c api.Cal) { may[c] = true })
	if len(may) != 2*7*12*2*140+1+1+140+24 {
		t.Fatalf("got %d rules", len(may))
	}
	try := func(c api.Cal) {
		want := api.ErrArg
		if may[c] {
			want = api.OK
		}
		c = probe.Whole(c)
		if e := Check(c); e != want {
			t.Fatalf("Check(%+v): got %d, want %d", c, e, want)
		}
		if _, e := Periods(c); e != want {
			t.Fatalf("Periods(%+v): got %d, want %d", c, e, want)
		}
	}
	rules, few := 0, rand.New(rand.NewPCG(1, 2))
	for c := range may {
		try(c)
		rules++
		for _, i := range few.Perm(10)[:3] {
			d := c
			for _, n := range []int{-1, 0, 1, 2, 3, 4, 5, 6, 7, 8, 12, 13, 14, 26, 27, 52, 53} {
				*parts(&d)[i] = n
				try(d)
			}
		}
	}
	if rules != len(may) {
		t.Errorf("got %d rules", rules)
	}
}

// TestCheckBeside changes each part of some calendars, to what stands beside it, and to the least and greatest ints.
func TestCheckBeside(t *testing.T) {
	may := map[api.Cal]bool{}
	eachCal(func(c api.Cal) { may[c] = true })
	for _, c := range probe.Cals() {
		if e := Check(c); e != api.OK {
			t.Errorf("Check(%+v): got %d", c, e)
		}
		for i := range parts(&c)[:10] {
			was := *parts(&c)[i]
			for _, n := range []int{was - 1, was + 1, 0, -was, was + 1<<32, was - 1<<32, least, most} {
				d := c
				*parts(&d)[i] = n
				rule := d
				rule.Name, rule.First, rule.Last, rule.Policy = "", 0, 0, 0
				// Policies hang on the kind, so of one that turns to months, or from them, nothing may be.
				right := may[rule] && (d.Kind == api.MonthR) == (c.Kind == api.MonthR)
				if e := Check(d); right != (e == api.OK) || !right && e != api.ErrArg {
					t.Errorf("Check(%+v): got %d", d, e)
				}
			}
		}
	}
}

func TestCheckNames(t *testing.T) {
	for _, c := range probe.Cals() {
		for _, s := range []string{"a", "z9", "a-", name16, "end", "calendar", "last"} {
			if c.Name = s; Check(c) != api.OK {
				t.Errorf("%q: got %d", s, Check(c))
			}
		}
		for _, s := range []string{"", "A", "9", "-", "a b", "a_", "a\n", "ä", name16 + "q", strings.Repeat("a", 300)} {
			c.Name = s
			if n, e := Periods(c); Check(c) != api.ErrArg || n != 0 || e != api.ErrArg {
				t.Errorf("%q: got %d, %d, %d", s, Check(c), n, e)
			}
		}
	}
}

// TestCheckYears asks which years may be served.
func TestCheckYears(t *testing.T) {
	for _, x := range []struct {
		first, last int
		want        api.Errno
	}{
		{1602, 1602, api.OK}, {9996, 9996, api.OK}, {2000, 2000, api.OK}, {2000, 2001, api.OK}, {1602, 2001, api.OK}, {1602, 2000, api.OK}, {9597, 9996, api.OK}, {9598, 9996, api.OK}, {2000, 2398, api.OK}, {2000, 2399, api.OK},
		{2000, 2400, api.ErrArg}, {1602, 2002, api.ErrArg}, {9596, 9996, api.ErrArg}, {1602, 9996, api.ErrArg},
		{1601, 1602, api.ErrArg}, {1601, 1601, api.ErrArg}, {1601, 2000, api.ErrArg}, {9996, 9997, api.ErrArg}, {9997, 9997, api.ErrArg}, {9600, 9997, api.ErrArg},
		{2001, 2000, api.ErrArg}, {9996, 1602, api.ErrArg}, {1603, 1602, api.ErrArg}, {9997, 9996, api.ErrArg}, {2000, 1601, api.ErrArg},
		{0, 0, api.ErrArg}, {0, 2000, api.ErrArg}, {2000, 0, api.ErrArg}, {-2000, -1999, api.ErrArg}, {2000 + 1<<32, 2001 + 1<<32, api.ErrArg},
		{least, most, api.ErrArg}, {most, least, api.ErrArg}, {least, least, api.ErrArg}, {most, most, api.ErrArg}, {least, 2000, api.ErrArg}, {2000, most, api.ErrArg}, {most, 2000, api.ErrArg}, {2000, least, api.ErrArg}, {2000, least + 2000, api.ErrArg}, {most - 9996, 9996, api.ErrArg},
	} {
		for _, c := range probe.Cals() {
			c.First, c.Last = x.first, x.last
			if e := Check(c); e != x.want {
				t.Errorf("Check(%+v): got %d, want %d", c, e, x.want)
			}
		}
	}
}

// TestCheckPolicies asks for each policy with each end.
func TestCheckPolicies(t *testing.T) {
	for _, c := range probe.Cals() {
		for _, p := range []int{-1, 0, 1, 2, 3, 4, 5, 1 + 1<<32, 4 - 1<<32, least, most} {
			want := api.ErrArg
			if c.Kind == api.MonthR && p == 4 || c.Kind != api.MonthR && p >= 1 && p <= 3 {
				want = api.OK
			}
			if c.Policy = p; Check(c) != want {
				t.Errorf("Check(%+v): got %d, want %d", c, Check(c), want)
			}
		}
	}
}

func TestPeriods(t *testing.T) {
	for i, want := range []int{13, 12, 12, 12, 26, 12, 52, 12} {
		if n, e := Periods(probe.Cals()[i]); n != want || e != api.OK {
			t.Errorf("Periods(%+v): got %d, %d, want %d", probe.Cals()[i], n, e, want)
		}
	}
	eachCal(func(c api.Cal) {
		want := 12
		switch {
		case c.Shape == api.FourS:
			want = 13
		case c.Cycle > 0:
			want = 52 / c.Cycle
		}
		if n, e := Periods(probe.Whole(c)); n != want || e != api.OK {
			t.Fatalf("Periods(%+v): got %d, %d, want %d", c, n, e, want)
		}
	})
	more := []api.Cal{probe.Whole(api.Cal{Kind: -1}), probe.Whole(api.Cal{Kind: 3 + 1<<32}), {Shape: api.CycleS}, probe.Whole(api.Cal{Kind: api.IsoR, Day: 7, Month: 12, Shape: api.CycleS}), {Shape: api.FourS}}
	for _, c := range append(probe.Wrong(), more...) {
		if n, e := Periods(c); n != 0 || e != api.ErrArg || Check(c) != api.ErrArg {
			t.Errorf("Periods(%+v): got %d, %d", c, n, e)
		}
	}
}

// P11.2

func TestRead(t *testing.T) {
	for i, s := range texts {
		checkText(t, s, probe.Cals()[i], api.OK)
		// The block's own place, and what stands around it, change nothing.
		checkText(t, "# x\n\n  "+s+" #", probe.Cals()[i], api.OK)
	}
}

// stand are keys that stand with an end, in a right block: which of them stand with which end.
var stand = []struct {
	end  string
	with []string
	c    api.Cal
}{
	{"end last sat sep", []string{"named first", "periods 4 4 5", "extra 2", "serve 2000 2010", "compare drop"}, api.Cal{Name: "a", Kind: 1, Day: 6, Month: 9, Shift: 1, Shape: 1, Pat: [3]int{4, 4, 5}, Extra: 2, First: 2000, Last: 2010, Policy: 3}},
	{"end near tue jun", []string{"named last", "pay 4", "extra 7", "serve 1700 1701", "compare shift"}, api.Cal{Name: "a", Kind: 2, Day: 2, Month: 6, Shape: 3, Cycle: 4, Extra: 7, First: 1700, Last: 1701, Policy: 2}},
	{"end nrf", []string{"serve 2000 2010", "compare start"}, api.Cal{Name: "a", Kind: 3, Day: 6, Month: 1, Shift: 1, Shape: 1, Pat: [3]int{4, 5, 4}, Extra: 12, First: 2000, Last: 2010, Policy: 1}},
	{"end broadcast", []string{"serve 2000 2010", "compare drop"}, api.Cal{Name: "a", Kind: 4, Day: 7, Month: 12, Shape: 4, Extra: 12, First: 2000, Last: 2010, Policy: 3}},
	{"end iso", []string{"periods 4", "extra 13", "serve 2000 2010", "compare start"}, api.Cal{Name: "a", Kind: 5, Day: 7, Month: 12, Shape: 2, Extra: 13, First: 2000, Last: 2010, Policy: 1}},
	{"end month feb", []string{"named first", "serve 2000 2010", "compare clamp"}, api.Cal{Name: "a", Kind: 6, Month: 2, Shift: 1, Shape: 5, First: 2000, Last: 2010, Policy: 4}},
}

// all are right keys, one of each name but `end`.
var all = []string{"named first", "periods 5 4 4", "pay 2", "extra 1", "serve 2000 2001", "compare drop"}

// nameOf is the name of a key that is written.
func nameOf(key string) string { return strings.Fields(key)[0] }

// textOf is a block of keys.
func textOf(keys []string) string { return "calendar a { " + strings.Join(keys, "; ") + "; }" }

// eachOrder hands on all orders of a list.
func eachOrder(l []string, do func(l []string)) {
	if len(l) == 0 {
		do(nil)
	}
	for i, s := range l {
		eachOrder(slices.Delete(slices.Clone(l), i, i+1), func(l []string) { do(append([]string{s}, l...)) })
	}
}

// TestReadInEachOrder has the keys of each end in each order.
func TestReadInEachOrder(t *testing.T) {
	for _, x := range stand {
		eachOrder(append([]string{x.end}, x.with...), func(l []string) {
			checkText(t, textOf(l), x.c, api.OK)
		})
	}
}

// TestReadKeysOfEnds adds to each end each key that does not stand with it, and takes away each one that does.
func TestReadKeysOfEnds(t *testing.T) {
	for _, x := range stand {
		keys := append([]string{x.end}, x.with...)
		for i := range keys {
			left := slices.Delete(slices.Clone(keys), i, i+1)
			checkRead(t, blockOf(t, " \n "+textOf(left)), api.Cal{}, 3, api.ErrMiss)
		}
		checkText(t, "!calendar a { "+x.end+"; }", api.Cal{}, api.ErrMiss)
		for _, more := range all {
			if slices.ContainsFunc(keys, func(k string) bool { return nameOf(k) == nameOf(more) }) {
				continue
			}
			want := api.ErrName
			if (nameOf(more) == "pay" || nameOf(more) == "periods") && !strings.Contains("nrf broadcast month", strings.Fields(x.end)[1]) {
				want = api.ErrTwice
			}
			// Ahead of the one that stands in its place, it is the other one that is told.
			checkText(t, textOf(append(slices.Clone(keys), "!"+more)), api.Cal{}, want)
			if want == api.ErrName {
				checkText(t, textOf(append([]string{"!" + more}, keys...)), api.Cal{}, want)
			}
		}
	}
	for _, s := range []string{
		"calendar a { end iso; pay 4; !periods 4; extra 1; serve 2000 2001; compare drop; }",
		"calendar a { end iso; periods 4; !pay 4; extra 1; serve 2000 2001; compare drop; }",
		"calendar a { periods 4 4 5; end last mon jan; !pay 1; }",
		"calendar a { pay 1; !periods 4; end near mon jan; }",
		"calendar a { pay 1; serve 1 1; !periods 4; named last; end near mon jan; }",
	} {
		checkText(t, s, api.Cal{}, api.ErrTwice)
	}
}

// words are what each key may have as words, with what they say to a calendar of an end with which it stands.
var words = []struct {
	key  string
	with string
	may  map[string]func(c *api.Cal)
}{
	{"named", "end month jan", map[string]func(c *api.Cal){
		"first": func(c *api.Cal) { c.Shift = 1 },
		"last":  func(c *api.Cal) { c.Shift = 0 },
	}},
	{"periods", "end iso", map[string]func(c *api.Cal){
		"4 4 5": func(c *api.Cal) { c.Shape, c.Pat = 1, [3]int{4, 4, 5} },
		"4 5 4": func(c *api.Cal) { c.Shape, c.Pat = 1, [3]int{4, 5, 4} },
		"5 4 4": func(c *api.Cal) { c.Shape, c.Pat = 1, [3]int{5, 4, 4} },
		"4":     func(c *api.Cal) { c.Shape = 2 },
	}},
	{"pay", "end iso", map[string]func(c *api.Cal){
		"1": func(c *api.Cal) { c.Shape, c.Cycle = 3, 1 },
		"2": func(c *api.Cal) { c.Shape, c.Cycle = 3, 2 },
		"4": func(c *api.Cal) { c.Shape, c.Cycle = 3, 4 },
	}},
	{"compare", "end nrf", map[string]func(c *api.Cal){
		"start": func(c *api.Cal) { c.Policy = 1 },
		"shift": func(c *api.Cal) { c.Policy = 2 },
		"drop":  func(c *api.Cal) { c.Policy = 3 },
	}},
	{"compare", "end month jan", map[string]func(c *api.Cal){
		"clamp": func(c *api.Cal) { c.Policy = 4 },
	}},
}

// rest are right keys beside one, of an end.
func rest(end, key string) []string {
	var l []string
	for _, x := range stand {
		if strings.Fields(x.end)[1] != strings.Fields(end)[1] {
			continue
		}
		for _, k := range x.with {
			cut := nameOf(k) == "periods" || nameOf(k) == "pay"
			if nameOf(k) != key && !(cut && (key == "pay" || key == "periods")) {
				l = append(l, strings.Replace(k, "extra 13", "extra 12", 1))
			}
		}
	}
	return append([]string{end}, l...)
}

func TestReadWords(t *testing.T) {
	for _, x := range words {
		for s, say := range x.may {
			keys := append(rest(x.with, x.key), x.key+" "+s)
			c, at, e := Read(blockOf(t, textOf(keys)))
			want := c
			say(&want)
			if c != want || at != 0 || e != api.OK {
				t.Errorf("%s: got %+v, %d, %d", textOf(keys), c, at, e)
			}
		}
	}
	days := []string{"mon", "tue", "wed", "thu", "fri", "sat", "sun"}
	months := []string{"jan", "feb", "mar", "apr", "may", "jun", "jul", "aug", "sep", "oct", "nov", "dec"}
	for m, month := range months {
		c := api.Cal{Name: "a", Kind: 6, Month: m + 1, Shape: 5, First: 2000, Last: 2001, Policy: 4}
		checkText(t, "calendar a { end month "+month+"; named last; serve 2000 2001; compare clamp; }", c, api.OK)
		for d, day := range days {
			for i, end := range []string{"last", "near"} {
				c := api.Cal{Name: "a", Kind: i + 1, Day: d + 1, Month: m + 1, Shift: 1, Shape: 2, Extra: 3, First: 2000, Last: 2001, Policy: 1}
				checkText(t, "calendar a { named first; periods 4; extra 3; serve 2000 2001; compare start; end "+end+" "+day+" "+month+"; }", c, api.OK)
			}
		}
	}
}

// TestReadExtra has `extra` from 1 to as many as there are periods, and one more.
func TestReadExtra(t *testing.T) {
	for _, x := range []struct {
		cut     string
		periods int
		c       api.Cal
	}{
		{"periods 4 5 4", 12, api.Cal{Shape: 1, Pat: [3]int{4, 5, 4}}}, {"periods 4", 13, api.Cal{Shape: 2}}, {"pay 4", 13, api.Cal{Shape: 3, Cycle: 4}}, {"pay 2", 26, api.Cal{Shape: 3, Cycle: 2}}, {"pay 1", 52, api.Cal{Shape: 3, Cycle: 1}},
	} {
		for extra := 1; extra <= 52; extra++ {
			s := fmt.Sprintf("calendar a { end iso; extra %d; %s; serve 2000 2001; compare drop; }", extra, x.cut)
			c := x.c
			c.Name, c.Kind, c.Day, c.Month, c.Extra, c.First, c.Last, c.Policy = "a", 5, 7, 12, extra, 2000, 2001, 3
			if extra <= x.periods {
				checkText(t, s, c, api.OK)
			} else {
				checkText(t, s, api.Cal{}, api.ErrArg)
			}
		}
	}
}

// TestReadServe has years at the edges: what is read is what `serve` says, and what may not be is told of the block.
func TestReadServe(t *testing.T) {
	for _, x := range []struct {
		first, last int
		want        api.Errno
	}{
		{1602, 1602, api.OK}, {1602, 2001, api.OK}, {9597, 9996, api.OK}, {9996, 9996, api.OK}, {2000, 2399, api.OK},
		{1602, 2002, api.ErrArg}, {9596, 9996, api.ErrArg}, {2000, 2400, api.ErrArg}, {1601, 1602, api.ErrArg}, {9996, 9997, api.ErrArg}, {2001, 2000, api.ErrArg}, {0, 0, api.ErrArg}, {999999999, 999999999, api.ErrArg}, {2000, 999999999, api.ErrArg},
	} {
		var c api.Cal
		if x.want == api.OK {
			c = probe.Cals()[2]
			c.First, c.Last = x.first, x.last
		}
		n := blockOf(t, fmt.Sprintf(" calendar r { end nrf; serve %d %d; compare shift; }", x.first, x.last))
		at := 1
		if x.want == api.OK {
			at = 0
		}
		checkRead(t, n, c, at, x.want)
	}
}

// noWords are what the words of each key may not be.
var noWords = map[string][]string{
	"end": {
		"", "1", "0", "6", "last", "near", "month", "first", "sat", "jan", "clamp", "weekly", "isos", "is", "iso-", "broad", "nrf4",
		"last sat", "last jan", "last jan sat", "last sat sat", "last jan jan", "last 6 jan", "last sat 1", "last 6 1", "last sat jan 1", "last sat jan jan", "last last jan", "sat last jan", "jan", "last satu jan", "last sa jan", "last sat january", "last sat ja", "last sat jan feb mar apr may jun",
		"near near mon jan", "near mon", "near", "near mon jan tue", "near 1 1", "near mon may-", "near mo may",
		"nrf 1", "nrf jan", "nrf nrf", "nrf sat jan", "broadcast 7", "broadcast dec", "broadcast sun dec", "iso 5", "iso iso", "iso dec", "iso sun dec", "1 iso",
		"month", "month 1", "month sat", "month jan feb", "month sat jan", "month jan 1", "month month", "month januar", "month jan sat",
	},
	"named":   {"", "0", "1", "2", "second", "first last", "first first", "first 1", "1 first", "last last", "lasts", "firs", "named", "last 0"},
	"periods": {"", "0", "1", "2", "3", "5", "12", "13", "four", "4 4", "4 5", "5 4", "4 4 4", "5 5 4", "5 4 5", "4 5 5", "5 5 5", "4 4 6", "4 4 3", "3 5 4", "3 4 5", "5 4 3", "4 5 4 4", "4 4 5 4 4 5", "4 4 5 4 4 5 4 4", "4 a 5", "4 4 a", "a 4 5", "a", "4 a", "a 4", "4 5 4 a", "0 0 0", "13 13 13", "5 4 4 4", "999999999"},
	"pay":     {"", "0", "3", "5", "8", "13", "26", "52", "1 2", "2 2", "4 4", "two", "a", "2 a", "a 2", "1 1 1", "999999999"},
	"extra":   {"", "0", "53", "54", "100", "999999999", "1 2", "12 12", "a", "last", "1 a", "a 1"},
	"serve":   {"", "2000", "2000 2001 2002", "2000 a", "a 2000", "a", "a b", "a b c", "2000 2001 a", "1 2 3 4 5 6 7 8"},
	"compare": {"", "1", "2", "4", "0", "begin", "starts", "start start", "start shift", "drop 1", "1 drop", "clamped", "clam", "first", "same", "compare"},
}

// TestReadRefusesWords has each wrong row of words in blocks where all else is right, and where more is wrong.
func TestReadRefusesWords(t *testing.T) {
	for key, rows := range noWords {
		for _, row := range rows {
			wrong := "!" + key + " " + row
			for _, x := range stand {
				keys := slices.DeleteFunc(append([]string{x.end}, x.with...), func(k string) bool { return nameOf(k) == key })
				for i := range len(keys) + 1 {
					checkText(t, textOf(slices.Insert(slices.Clone(keys), i, wrong)), api.Cal{}, api.ErrForm)
				}
			}
			checkText(t, textOf([]string{wrong, "zz", key + " 7"}), api.Cal{}, api.ErrForm)
		}
	}
	for _, key := range append([]string{"end iso", "end last sat jan"}, all...) {
		for _, inside := range []string{"", " ", "a;", key + ";", "a { b; }"} {
			checkText(t, "calendar a { !"+key+" {"+inside+"} end nrf; }", api.Cal{}, api.ErrForm)
			checkText(t, "calendar a { end iso; pay 1; !"+nameOf(key)+" {"+inside+"} }", api.Cal{}, map[bool]api.Errno{true: api.ErrTwice, false: api.ErrForm}[nameOf(key) == "end" || nameOf(key) == "pay"])
		}
	}
}

// TestReadRefuses has things that are wrong, and two of them: what stands first in the chapter is told.
func TestReadRefuses(t *testing.T) {
	const miss, form, name, twice, arg = api.ErrMiss, api.ErrForm, api.ErrName, api.ErrTwice, api.ErrArg
	for _, x := range []struct {
		s string
		e api.Errno
	}{
		// no calendar's block
		{"!calendars r { end nrf; serve 2000 2030; compare shift; }", form}, {"!calenda r { end nrf; serve 2000 2030; compare shift; }", form}, {"!r calendar { }", form}, {"!end nrf;", form},
		{" !calendar { end nrf; serve 2000 2030; compare shift; }", form}, {"!calendar { }", form}, {"!calendar 7 { }", form}, {"!calendar 0 { end nrf; serve 2000 2030; compare shift; }", form}, {"!calendar a b { end nrf; serve 2000 2030; compare shift; }", form}, {"!calendar a 1 { }", form}, {"!calendar 1 a { }", form}, {"!calendar a;", form}, {"!calendar;", form}, {"!calendar a b c d e f g h { }", form},
		{"!calendar 7 { zz; }", form}, {"!cal a { zz; end nrf 1; }", form},
		// names that are no keys
		{"calendar a { !zz; }", name}, {"calendar a { !calendar; }", name}, {"calendar a { !calendar b { end nrf; } }", name}, {"calendar a { !ends nrf; }", name}, {"calendar a { !en nrf; }", name}, {"calendar a { !last; }", name}, {"calendar a { !period 4; }", name}, {"calendar a { !zz { } }", name}, {"calendar a { end nrf; serve 2000 2001; compare drop; !zz; }", name}, {"calendar a { !mon; end nrf; }", name}, {"calendar a { end nrf; !a { end nrf; } }", name},
		// the same key twice
		{"calendar a { end nrf; !end nrf; serve 2000 2001; compare drop; }", twice}, {"calendar a { end nrf; serve 2000 2001; compare drop; !compare drop; }", twice}, {"calendar a { serve 2000 2001; !serve 2000; }", twice}, {"calendar a { end nrf; !end { } }", twice}, {"calendar a { named last; !named first; }", twice}, {"calendar a { pay 1; !pay 3; }", twice}, {"calendar a { periods 4; extra 1; !periods 4; }", twice}, {"calendar a { extra 1; pay 1; !extra 1; }", twice}, {"calendar a { periods 4; pay 1; !periods 4; end iso; }", twice},
		// two things wrong in keys: the first key is told, and of one key the first thing
		{"calendar a { end nrf; !zz; end nrf; }", name}, {"calendar a { end nrf; !end nrf 5; zz; }", twice}, {"calendar a { !serve 2000; zz; }", form}, {"calendar a { !zz 1 { a; } serve; }", name}, {"calendar a { end iso; !named 1; extra 99; }", form}, {"calendar a { !end nrf 1; end nrf; }", form}, {"calendar a { !end; zz; end; }", form}, {"calendar a { end iso; extra 3; !extra 99; pay 3; }", twice},
		// what keys say is told ahead of which ones stand there
		{"calendar a { end iso; named last; !pay 3; }", form}, {"calendar a { named last; end iso; periods 4; pay 1; !compare clam; }", form}, {"calendar a { extra 1; end nrf; !zz; }", name}, {"calendar a { end iso; pay 4; periods 4; !serve 1; }", form},
		// no end
		{"!calendar a { }", miss}, {"!calendar a { serve 1 2; extra 3; }", miss}, {"!calendar a { named last; periods 4; pay 1; extra 3; serve 9 1; compare clamp; }", miss}, {"\t!calendar a { pay 1; periods 4; }", miss},
		// keys that do not stand with the end
		{"calendar a { !extra 3; end nrf; }", name}, {"calendar a { end iso; !named last; }", name}, {"calendar a { end iso; pay 4; !named last; periods 4; }", name}, {"calendar a { end iso; pay 4; !periods 4; named last; }", twice}, {"calendar a { end month jan; !pay 4; }", name}, {"calendar a { end month jan; !pay 4; periods 4; }", name}, {"calendar a { !periods 4; pay 4; end nrf; }", name}, {"calendar a { !named last; extra 5; end broadcast; }", name}, {"calendar a { !extra 52; named last; end month jan; }", name}, {"calendar a { serve 5 1; !named last; end iso; compare clamp; }", name}, {"calendar a { pay 4; !periods 4; named last; end iso; }", twice},
		// keys that are missing
		{"!calendar a { end iso; extra 3; serve 2000 2001; compare start; }", miss}, {"!calendar a { end iso; pay 4; serve 2000 2001; compare start; }", miss}, {"!calendar a { end last sat jan; periods 4; extra 1; serve 2000 2001; compare start; }", miss}, {"  !calendar a { end nrf; compare clamp; }", miss}, {"!calendar a { end nrf; serve 5 1; }", miss}, {"!calendar a { end iso; pay 4; extra 52; serve 2000 2001; }", miss}, {"!calendar a { end month jan; serve 2000 2001; compare drop; }", miss}, {"!calendar a { end nrf; }", miss},
		// calendars that may not be
		{"!calendar a { end nrf; compare clamp; serve 2000 2001; }", arg}, {"!calendar a { end broadcast; compare clamp; serve 2000 2001; }", arg}, {"!calendar a { end iso; pay 4; extra 1; compare clamp; serve 2000 2001; }", arg}, {"!calendar a { end month jan; named last; compare start; serve 2000 2001; }", arg}, {"!calendar a { end month jan; named last; compare shift; serve 2000 2001; }", arg}, {"!calendar a { end month jan; named last; compare drop; serve 2000 2001; }", arg}, {"\n!calendar a { end iso; periods 4 5 4; extra 13; compare drop; serve 2000 2001; }", arg}, {" !calendar a { end nrf; compare drop; serve 2001 2000; }", arg},
	} {
		checkText(t, x.s, api.Cal{}, x.e)
	}
}

// TestReadNoItems hands in items that may not be: no place is told of them.
func TestReadNoItems(t *testing.T) {
	right := func() api.Node { return blockOf(t, " "+texts[0]) }
	for i, spoil := range []func(n *api.Node){
		func(n *api.Node) { n.Name = "" },
		func(n *api.Node) { n.Name = "Calendar" },
		func(n *api.Node) { n.Block = false },
		func(n *api.Node) { n.Words[0].S = "" },
		func(n *api.Node) { n.Words[0].S = "A" },
		func(n *api.Node) { n.Words[0].N = 1 },
		func(n *api.Node) { n.Words[0].Num = true },
		func(n *api.Node) { n.Words = slices.Repeat(n.Words, 9) },
		func(n *api.Node) { n.Kids[0].Name = "End" },
		func(n *api.Node) { n.Kids[3].Words[0].N = -1 },
		func(n *api.Node) { n.Kids[3].Words[0].N = 1000000000 },
		func(n *api.Node) { n.Kids[3].Words[0].S = "a" },
		func(n *api.Node) { n.Kids[0].Words[0].N = 7 },
		func(n *api.Node) { n.Kids[5].Words[0].S = "Drop" },
		func(n *api.Node) { n.Kids[5].Kids = []api.Node{{Name: "a"}} },
		func(n *api.Node) { n.Kids[5].Block, n.Kids[5].Kids = true, []api.Node{{Name: "A"}} },
		func(n *api.Node) {
			deep := api.Node{Name: "a", Block: true}
			for range 5 {
				deep = api.Node{Name: "a", Block: true, Kids: []api.Node{deep}}
			}
			n.Kids = append(n.Kids, deep)
		},
	} {
		n := right()
		spoil(&n)
		if tree.Check([]api.Node{n}) == api.OK {
			t.Errorf("%d: %s may be", i, show(n))
		}
		checkRead(t, n, api.Cal{}, 0, api.ErrArg)
		// Nothing else that is wrong is told ahead of it.
		n.Kids = append([]api.Node{{Name: "zz", At: 5}}, n.Kids...)
		checkRead(t, n, api.Cal{}, 0, api.ErrArg)
	}
	checkRead(t, api.Node{}, api.Cal{}, 0, api.ErrArg)
	checkRead(t, api.Node{Name: "A", At: 5}, api.Cal{}, 0, api.ErrArg)
	// One block less deep, the item may be, and is told as what it is here: no key.
	deep := api.Node{Name: "a", At: 9, Block: true}
	for range 4 {
		deep = api.Node{Name: "a", At: 9, Block: true, Kids: []api.Node{deep}}
	}
	n := right()
	n.Kids = append(n.Kids, deep)
	checkRead(t, n, api.Cal{}, 9, api.ErrName)
}

// TestReadPlaces has places as they may be handed in: they are told as they are.
func TestReadPlaces(t *testing.T) {
	for _, at := range []int{least, -1, 0, 7, 1 << 40, most} {
		n := blockOf(t, texts[2])
		n.At, n.Words[0].At, n.Kids[1].At, n.Kids[1].Words[0].At = at, at, at, at
		checkRead(t, n, probe.Cals()[2], 0, api.OK)
		n.Kids[1].Words[1].N = 1
		checkRead(t, n, api.Cal{}, at, api.ErrArg)
		n.Kids[1].Name = "extra"
		n.Kids[1].Words = n.Kids[1].Words[1:]
		checkRead(t, n, api.Cal{}, at, api.ErrName)
		n.Kids[1].Words[0].N = 0
		checkRead(t, n, api.Cal{}, at, api.ErrForm)
		n.Kids = n.Kids[:1]
		checkRead(t, n, api.Cal{}, at, api.ErrMiss)
		n.Words = nil
		checkRead(t, n, api.Cal{}, at, api.ErrForm)
	}
}

// The forms of keys, and which stand with which end, by which blocks are read apart from the program.
var (
	forms = map[string]*regexp.Regexp{
		"end":     regexp.MustCompile(`^(?:(?:last|near) (?:mon|tue|wed|thu|fri|sat|sun) MONTH|nrf|broadcast|iso|month MONTH)$`),
		"named":   regexp.MustCompile(`^(?:first|last)$`),
		"periods": regexp.MustCompile(`^(?:4|4 4 5|4 5 4|5 4 4)$`),
		"pay":     regexp.MustCompile(`^[124]$`),
		"extra":   regexp.MustCompile(`^(?:[1-9]|[1-4][0-9]|5[0-2])$`),
		"serve":   regexp.MustCompile(`^[0-9]+ [0-9]+$`),
		"compare": regexp.MustCompile(`^(?:start|shift|drop|clamp)$`),
	}
	withEnd = map[string]string{"last": "end named periods pay extra serve compare", "near": "end named periods pay extra serve compare", "nrf": "end serve compare", "broadcast": "end serve compare", "iso": "end periods pay extra serve compare", "month": "end named serve compare"}
)

func init() {
	month := "(?:jan|feb|mar|apr|may|jun|jul|aug|sep|oct|nov|dec)"
	forms["end"] = regexp.MustCompile(strings.ReplaceAll(forms["end"].String(), "MONTH", month))
}

// wordsOf writes an item's words.
func wordsOf(n api.Node) string {
	var l []string
	for _, w := range n.Words {
		if w.Num {
			l = append(l, strconv.Itoa(w.N))
		} else {
			l = append(l, w.S)
		}
	}
	return strings.Join(l, " ")
}

// slowRead reads the block of a text, promise by promise, by texts.
func slowRead(n api.Node) (said map[string]string, at int, e api.Errno) {
	said = map[string]string{}
	for _, k := range n.Kids {
		form := forms[k.Name]
		_, met := said[k.Name]
		switch {
		case form == nil:
			return nil, k.At, api.ErrName
		case met:
			return nil, k.At, api.ErrTwice
		case k.Block || !form.MatchString(wordsOf(k)):
			return nil, k.At, api.ErrForm
		}
		said[k.Name] = wordsOf(k)
	}
	end, there := said["end"]
	if !there {
		return nil, n.At, api.ErrMiss
	}
	end = strings.Fields(end)[0]
	cut := ""
	for _, k := range n.Kids {
		if !slices.Contains(strings.Fields(withEnd[end]), k.Name) {
			return nil, k.At, api.ErrName
		}
		if k.Name == "pay" || k.Name == "periods" {
			if cut != "" {
				return nil, k.At, api.ErrTwice
			}
			cut = k.Name + " " + wordsOf(k)
		}
	}
	for _, key := range strings.Fields(withEnd[end]) {
		if _, there := said[key]; !there && !(cut != "" && (key == "pay" || key == "periods")) {
			return nil, n.At, api.ErrMiss
		}
	}
	var first, last, extra int
	fmt.Sscan(said["serve"], &first, &last)
	fmt.Sscan(said["extra"], &extra)
	periods := map[string]int{"": 12, "periods 4": 13, "pay 1": 52, "pay 2": 26, "pay 4": 13, "periods 4 4 5": 12, "periods 4 5 4": 12, "periods 5 4 4": 12}[cut]
	if extra > periods || first < 1602 || last > 9996 || first > last || last-first >= 400 || (said["compare"] == "clamp") != (end == "month") {
		return nil, n.At, api.ErrArg
	}
	return said, 0, api.OK
}

// saidBy writes what a calendar says, as slowRead tells it.
func saidBy(c api.Cal) map[string]string {
	day := strings.Fields("? mon tue wed thu fri sat sun")[c.Day%8]
	month := strings.Fields("? jan feb mar apr may jun jul aug sep oct nov dec")[c.Month%13]
	said := map[string]string{"serve": fmt.Sprint(c.First, " ", c.Last), "compare": strings.Fields("? start shift drop clamp")[c.Policy%5]}
	said["end"] = []string{"?", "last " + day + " " + month, "near " + day + " " + month, "nrf", "broadcast", "iso", "month " + month}[c.Kind%7]
	if c.Kind == 1 || c.Kind == 2 || c.Kind == 6 {
		said["named"] = []string{"last", "first", "?"}[c.Shift%3]
	}
	if c.Kind == 1 || c.Kind == 2 || c.Kind == 5 {
		said["extra"] = strconv.Itoa(c.Extra)
		switch c.Shape {
		case 1:
			said["periods"] = strings.Trim(fmt.Sprint(c.Pat), "[]")
		case 2:
			said["periods"] = "4"
		case 3:
			said["pay"] = strconv.Itoa(c.Cycle)
		}
	}
	return said
}

// checkSlow holds Read of a text's block against the slow reader.
func checkSlow(t *testing.T, s string) api.Errno {
	t.Helper()
	n := blockOf(t, s)
	said, at, e := slowRead(n)
	c, gotAt, gotE := Read(n)
	if gotAt != at || gotE != e {
		t.Fatalf("%s: got %+v, %d, %d, want %d, %d", s, c, gotAt, gotE, at, e)
	}
	if e != api.OK && c != (api.Cal{}) || e == api.OK && (c.Name != "a" || Check(c) != api.OK || fmt.Sprint(saidBy(c)) != fmt.Sprint(said)) {
		t.Fatalf("%s: got %+v, %d, want %v", s, c, gotE, said)
	}
	return e
}

// TestReadAgainstSlow reads blocks of all short rows of keys, right ones and wrong ones, and long rows of chance.
func TestReadAgainstSlow(t *testing.T) {
	pieces := []string{"end nrf;", "end iso;", "end month may;", "end near sun feb;", "end last;", "named first;", "periods 4;", "pay 2;", "extra 26;", "extra 0;", "serve 2000 2001;", "serve 3 4;", "compare drop;", "compare clamp;", "zz;", "serve {}"}
	var rows func(s string, many int)
	rows = func(s string, many int) {
		checkSlow(t, s+"}")
		if many == 0 {
			return
		}
		for _, p := range pieces {
			rows(s+p, many-1)
		}
	}
	rows(" calendar a {", 4)
	chance := rand.New(rand.NewPCG(11, 11))
	more := []string{"end last fri dec;", "end broadcast;", "named last;", "periods 4 4 5;", "periods 4 5 4;", "pay 1;", "pay 4;", "extra 12;", "extra 13;", "extra 1;", "serve 1602 2001;", "serve 9597 9996;", "compare start;", "compare shift;"}
	met := map[api.Errno]int{}
	for range 80000 {
		x := stand[chance.IntN(len(stand))]
		row := append([]string{x.end + ";"}, x.with...)
		for i := 1; i < len(row); i++ {
			row[i] += ";"
		}
		for range chance.IntN(3) {
			from := pieces
			if chance.IntN(2) == 0 {
				from = more
			}
			row[chance.IntN(len(row))] = from[chance.IntN(len(from))]
		}
		if chance.IntN(4) == 0 {
			row = append(row, more[chance.IntN(len(more))])
		}
		chance.Shuffle(len(row), func(i, j int) { row[i], row[j] = row[j], row[i] })
		met[checkSlow(t, "calendar a{"+strings.Join(row, " ")+"}")]++
	}
	for _, e := range []api.Errno{api.OK, api.ErrArg, api.ErrForm, api.ErrName, api.ErrTwice, api.ErrMiss} {
		if met[e] < 500 {
			t.Errorf("error %d: met only %d times", e, met[e])
		}
	}
}

// P11.3

func TestNode(t *testing.T) {
	for i, s := range []string{
		"calendar l { end last fri aug; named last; periods 4; extra 13; serve 2000 2001; compare drop; }",
		"calendar n { end near mon dec; named first; periods 5 4 4; extra 1; serve 2000 2399; compare start; }",
		"calendar r { end nrf; serve 2000 2030; compare shift; }",
		"calendar b { end broadcast; serve 1602 2001; compare drop; }",
		"calendar i { end iso; pay 2; extra 26; serve 9996 9996; compare start; }",
		"calendar m { end month sep; named last; serve 2000 2001; compare clamp; }",
		"calendar " + name16 + " { end last sun jan; named first; pay 1; extra 52; serve 9597 9996; compare shift; }",
		"calendar x-9 { end month dec; named first; serve 1602 1602; compare clamp; }",
	} {
		n, e := Node(probe.Cals()[i])
		want := blockOf(t, s)
		if !tree.Same([]api.Node{n}, []api.Node{want}) || e != api.OK {
			t.Errorf("Node(%+v): got %s, %d", probe.Cals()[i], show(n), e)
		}
		if strings.Contains(strings.ReplaceAll(" "+show(n), " 0:", " "), ":") {
			t.Errorf("Node(%+v): got places: %s", probe.Cals()[i], show(n))
		}
	}
}

// TestKeyName holds each key's name, as it is told, against the one by which the key is read.
func TestKeyName(t *testing.T) {
	names := []string{"end", "named", "periods", "pay", "extra", "serve", "compare"}
	for i, want := range names {
		if keyName(i+1) != want || number(keyNames, want) != i+1 {
			t.Errorf("key %d: got %q, and %q is read as %d", i+1, keyName(i+1), want, number(keyNames, want))
		}
	}
	if len(keyNames) != len(names) || len(readers()) != len(names) {
		t.Errorf("got %d names and %d readers of %d keys", len(keyNames), len(readers()), len(names))
	}
	for _, key := range []int{least, -1, 0, 8, most} {
		if keyName(key) != "" {
			t.Errorf("key %d: got %q", key, keyName(key))
		}
	}
}

// TestNodeKeys asks, of all that keys can say, for the names of the keys that tell it, in their order, and reads them again.
func TestNodeKeys(t *testing.T) {
	met := map[string]int{}
	eachCal(func(c api.Cal) {
		c = probe.Whole(c)
		cut := "periods"
		if c.Cycle > 0 {
			cut = "pay"
		}
		want := map[int]string{
			api.LastR:  "end named " + cut + " extra serve compare",
			api.NearR:  "end named " + cut + " extra serve compare",
			api.NrfR:   "end serve compare",
			api.BroadR: "end serve compare",
			api.IsoR:   "end " + cut + " extra serve compare",
			api.MonthR: "end named serve compare",
		}[c.Kind]
		n, e := Node(c)
		var got []string
		for _, k := range n.Kids {
			got = append(got, k.Name)
			met[k.Name]++
		}
		if n.Name != "calendar" || strings.Join(got, " ") != want || e != api.OK {
			t.Fatalf("Node(%+v): got %s, %d, want keys %s", c, show(n), e, want)
		}
		checkRead(t, n, c, 0, api.OK)
	})
	if len(met) != 7 {
		t.Errorf("got keys %v", met)
	}
}

func TestNodeRefuses(t *testing.T) {
	for _, c := range probe.Wrong() {
		if n, e := Node(c); show(n) != show(api.Node{}) || e != api.ErrArg {
			t.Errorf("Node(%+v): got %s, %d", c, show(n), e)
		}
	}
}

// P11.4

// TestReadOfNode writes each calendar that keys can say, and reads it again, for itself and as a text.
func TestReadOfNode(t *testing.T) {
	policies := 0
	eachCal(func(c api.Cal) {
		c = probe.Whole(c)
		c.First, c.Last = 1602+policies%7000, 1602+policies%7000+policies%400
		if policies++; c.Kind != api.MonthR {
			c.Policy = 1 + policies%3
		}
		n, e := Node(c)
		back, at, e2 := Read(n)
		if back != c || at != 0 || e != api.OK || e2 != api.OK {
			t.Fatalf("%+v: got %s, %d, %+v, %d, %d", c, show(n), e, back, at, e2)
		}
	})
}

// TestAnswersAreNew writes into what was told, and holds what was handed in against what it was.
func TestAnswersAreNew(t *testing.T) {
	n := blockOf(t, texts[1])
	was := show(n)
	checkRead(t, n, probe.Cals()[1], 0, api.OK)
	if show(n) != was {
		t.Errorf("Read wrote into what it was handed: %s", show(n))
	}
	told, _ := Node(probe.Cals()[1])
	want := show(told)
	for i := range told.Kids {
		for j := range told.Kids[i].Words {
			told.Kids[i].Words[j] = api.Word{Num: true, N: 99}
		}
		told.Kids[i].Name = "x"
	}
	told.Words[0].S = "y"
	if n, _ := Node(probe.Cals()[1]); show(n) != want {
		t.Errorf("got %s, want %s", show(n), want)
	}
	checkRead(t, n, probe.Cals()[1], 0, api.OK)
}
