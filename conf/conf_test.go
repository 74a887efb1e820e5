package conf

import (
	"math/rand/v2"
	"slices"
	"strconv"
	"strings"
	"testing"

	"quarterday/api"
	"quarterday/layout"
	"quarterday/probe"
)

// name16 is as long as a name may be.
const name16 = "abcdefghijklmnop"

// ends are calendars of each kind of ends.
func ends() []api.Cal { return probe.Cals()[:6] }

// lines are what they are written as.
var lines = []string{
	"calendar l {\n  end last fri aug;\n  named last;\n  periods 4;\n  extra 13;\n  serve 2000 2001;\n  compare drop;\n}\n",
	"calendar n {\n  end near mon dec;\n  named first;\n  periods 5 4 4;\n  extra 1;\n  serve 2000 2399;\n  compare start;\n}\n",
	"calendar r {\n  end nrf;\n  serve 2000 2030;\n  compare shift;\n}\n",
	"calendar b {\n  end broadcast;\n  serve 1602 2001;\n  compare drop;\n}\n",
	"calendar i {\n  end iso;\n  pay 2;\n  extra 26;\n  serve 9996 9996;\n  compare start;\n}\n",
	"calendar m {\n  end month sep;\n  named last;\n  serve 2000 2001;\n  compare clamp;\n}\n",
}

// named is a calendar of an end by another name.
func named(end int, name string) api.Cal {
	c := ends()[end]
	c.Name = name
	return c
}

// many are so many calendars, by the names c1, c2 and so on, of one end behind the other.
func many(n int) []api.Cal {
	var l []api.Cal
	for i := range n {
		l = append(l, named(i%len(ends()), "c"+strconv.Itoa(i+1)))
	}
	return l
}

// textOf writes calendars apart from the program.
func textOf(l []api.Cal) string {
	var b strings.Builder
	for _, c := range l {
		behind := lines[c.Kind-1][strings.Index(lines[c.Kind-1], " {"):]
		b.WriteString("calendar " + c.Name + behind)
	}
	return b.String()
}

// checkRefused holds what all calls tell of a list that may not be.
func checkRefused(t *testing.T, l []api.Cal, want api.Errno) {
	t.Helper()
	if e := Check(l); e != want {
		t.Errorf("Check(%d: %.200v): got %d, want %d", len(l), l, e, want)
	}
	if s, e := Print(l); s != "" || e != want {
		t.Errorf("Print(%d: %.200v): got %q, %d, want %d", len(l), l, s, e, want)
	}
	for _, name := range []string{"zz", "", "c1", "a", "l"} {
		if c, e := Find(l, name); c != (api.Cal{}) || e != want {
			t.Errorf("Find(%d: %.200v, %s): got %+v, %d, want %d", len(l), l, name, c, e, want)
		}
	}
}

// checkRead holds what Read tells against all of what it should.
func checkRead(t *testing.T, s string, want []api.Cal, wantAt int, wantE api.Errno) {
	t.Helper()
	if l, at, e := Read(s); !slices.Equal(l, want) || at != wantAt || e != wantE {
		t.Errorf("Read(%.300q): got %.300v, %d, %d, want %.300v, %d, %d", s, l, at, e, want, wantAt, wantE)
	}
}

// checkMark does so with a text that is refused: `!` stands in it ahead of the place.
func checkMark(t *testing.T, s string, want api.Errno) {
	t.Helper()
	checkRead(t, strings.Replace(s, "!", "", 1), nil, strings.Index(s, "!"), want)
}

// P12.1

func TestCheck(t *testing.T) {
	for _, l := range [][]api.Cal{nil, {}, ends()[:1], ends()[1:2], ends(), probe.Cals(), many(1), many(2), many(31), many(32), {named(0, "a"), named(0, "aa"), named(0, "a-"), named(0, "a1")}} {
		if e := Check(l); e != api.OK {
			t.Errorf("Check(%+v): got %d", l, e)
		}
	}
}

func TestCheckRefuses(t *testing.T) {
	for _, n := range []int{33, 34, 64, 1000} {
		checkRefused(t, many(n), api.ErrLong)
	}
	twice := func(n, i, j int) []api.Cal {
		l := many(n)
		l[j].Name = l[i].Name
		return l
	}
	for _, x := range [][3]int{{2, 0, 1}, {3, 0, 2}, {3, 1, 2}, {6, 2, 4}, {32, 0, 31}, {32, 0, 1}, {32, 30, 31}, {32, 11, 17}} {
		checkRefused(t, twice(x[0], x[1], x[2]), api.ErrTwice)
	}
	checkRefused(t, []api.Cal{ends()[0], ends()[0]}, api.ErrTwice)
	checkRefused(t, []api.Cal{named(0, "a"), named(5, "a")}, api.ErrTwice)
	for _, c := range probe.Wrong() {
		checkRefused(t, []api.Cal{c}, api.ErrArg)
		checkRefused(t, []api.Cal{c, ends()[0]}, api.ErrArg)
		checkRefused(t, []api.Cal{ends()[0], c}, api.ErrArg)
		checkRefused(t, append(many(31), c), api.ErrArg)
		// two things wrong: too many calendars first, then what stands ahead, and of one calendar that it may not be
		checkRefused(t, append(many(32), c), api.ErrLong)
		checkRefused(t, append([]api.Cal{c}, twice(32, 0, 1)...), api.ErrLong)
		checkRefused(t, append([]api.Cal{c}, twice(2, 0, 1)...), api.ErrArg)
		checkRefused(t, append(twice(2, 0, 1), c), api.ErrTwice)
		checkRefused(t, []api.Cal{c, c}, api.ErrArg)
		again := c
		again.Name, again.Shape = "c1", 0
		checkRefused(t, append(many(1), again), api.ErrArg)
	}
	checkRefused(t, twice(33, 0, 1), api.ErrLong)
	checkRefused(t, slices.Repeat([]api.Cal{{}}, 33), api.ErrLong)
}

// P12.2

func TestRead(t *testing.T) {
	for _, s := range []string{"", " ", "\n\t \n", "#", "# calendar", "# a\n #b\n\n\t", "\n#\n#"} {
		checkRead(t, s, nil, 0, api.OK)
	}
	for i := range ends() {
		checkRead(t, lines[i], ends()[i:i+1], 0, api.OK)
		checkRead(t, "# one\n\n  "+lines[i]+"# ends", ends()[i:i+1], 0, api.OK)
	}
	checkRead(t, strings.Join(lines, ""), ends(), 0, api.OK)
	checkRead(t, strings.Join(lines, "#\n"), ends(), 0, api.OK)
	checkRead(t, "calendar x{compare shift;end nrf;serve 2000 2030;}calendar y{serve 1602 2001;end broadcast;compare drop;}", []api.Cal{named(2, "x"), named(3, "y")}, 0, api.OK)
	for _, n := range []int{1, 2, 31, 32} {
		checkRead(t, textOf(many(n)), many(n), 0, api.OK)
	}
	// Names are the calendars' own: keys may be names, too.
	checkRead(t, textOf([]api.Cal{named(2, "end"), named(3, "calendar"), named(4, "nrf"), named(5, name16)}), []api.Cal{named(2, "end"), named(3, "calendar"), named(4, "nrf"), named(5, name16)}, 0, api.OK)
}

// TestReadRefuses has what is wrong alone, behind one calendar that is right, and behind 31.
func TestReadRefuses(t *testing.T) {
	for _, ahead := range []string{"", "# none\n", "calendar a { end nrf; serve 2000 2030; compare shift; }\n", textOf(many(31))} {
		for _, x := range []struct {
			s string
			e api.Errno
		}{
			// what layer lex tells
			{"!.", api.ErrForm}, {"calendar b !. {", api.ErrForm}, {"calendar b { end nrf; serve 2000 !02001; }", api.ErrForm}, {"calendar b { end nrf; serve 2000 2001!a; }", api.ErrForm}, {"calendar !" + name16 + "q { }", api.ErrLong}, {"calendar b { serve 2000 !1000000000; }", api.ErrLong}, {"calendar b { end nrf; } !B", api.ErrForm}, {"zz; calendar b { end iso; extra 99; } !%", api.ErrForm},
			// what layer tree tells
			{"!;", api.ErrForm}, {"!}", api.ErrForm}, {"!12;", api.ErrForm}, {"calendar b {!", api.ErrForm}, {"calendar b { end nrf!", api.ErrForm}, {"calendar b { end nrf; } !}", api.ErrForm}, {"calendar b { end nrf!}", api.ErrForm}, {"calendar b { a 1 2 3 4 5 6 7 8 !9; }", api.ErrLong}, {"calendar b { a { a { a { a { a { a !{ } } } } } } }", api.ErrDeep}, {"zz; calendar b { end nrf !}", api.ErrForm}, {"calendar b { end nrf; } calendar!", api.ErrForm},
			// what layer field tells
			{"!zz;", api.ErrForm}, {"!calendar;", api.ErrForm}, {"!calendar b;", api.ErrForm}, {"!calendar b c { }", api.ErrForm}, {"!calendar 1 { }", api.ErrForm}, {"!end nrf;", api.ErrForm}, {" !calendars b { end nrf; }", api.ErrForm},
			{"calendar b { end iso; !extra 99; }", api.ErrForm}, {"calendar b { !end last; }", api.ErrForm}, {"calendar b { end nrf; !zz; }", api.ErrName}, {"calendar b { end nrf; !named last; }", api.ErrName}, {"calendar b { end nrf; !end nrf; }", api.ErrTwice}, {"calendar b { end iso; pay 4; !periods 4; }", api.ErrTwice},
			{"!calendar b { }", api.ErrMiss}, {"\n\t!calendar b { end nrf; }", api.ErrMiss}, {"!calendar b { end nrf; serve 2001 2000; compare drop; }", api.ErrArg}, {"!calendar b { end nrf; serve 2000 2001; compare clamp; }", api.ErrArg}, {"!calendar b { end iso; periods 4; extra 14; serve 2000 2001; compare drop; }", api.ErrArg},
			// two things wrong: what stands ahead
			{"!zz; calendar b { }", api.ErrForm}, {"!calendar b { } zz;", api.ErrMiss}, {"calendar b { !zz; } calendar b { zz; }", api.ErrName}, {"!calendar b { } calendar b { }", api.ErrMiss},
		} {
			checkMark(t, ahead+x.s, x.e)
		}
	}
}

// TestReadTwice has names that stand twice, with what else is wrong.
func TestReadTwice(t *testing.T) {
	const a, b = "calendar a { end nrf; serve 2000 2030; compare shift; }\n", "calendar b { end month mar; named first; serve 2000 2010; compare clamp; }\n"
	for _, s := range []string{
		a + "!" + a, a + b + "!" + a, a + b + "!" + b, b + a + "  !" + b + a, a + " # a\n!" + a + "zz;", a + "!calendar a { end broadcast; serve 2000 2001; compare drop; } calendar b { }", textOf(many(31)) + "!" + textOf(many(1)), textOf(many(31)) + "!" + textOf(many(31)[30:]), textOf(many(2)) + "!" + textOf(many(33)),
	} {
		checkMark(t, s, api.ErrTwice)
	}
	// What is wrong within it is told ahead of its name.
	checkMark(t, a+"!calendar a { }", api.ErrMiss)
	checkMark(t, a+"calendar a { end nrf; !zz; }", api.ErrName)
	checkMark(t, a+"!calendar a { end nrf; serve 1 2; compare drop; }", api.ErrArg)
	// What is no item is told ahead of all names.
	checkMark(t, a+a+"calendar b {!", api.ErrForm)
	checkMark(t, a+a+"!%", api.ErrForm)
}

// TestReadMany has more calendars than there may be: the first one that is too many is told, whatever it is.
func TestReadMany(t *testing.T) {
	full := textOf(many(32))
	for _, s := range []string{textOf([]api.Cal{named(0, "z")}), textOf(many(1)), textOf(many(32)), "zz;", "calendar;", "calendar z { }", "calendar c1 { zz; }", "end nrf; calendar z { zz; }", "calendar z { end nrf; serve 1 2; compare drop; }"} {
		checkMark(t, full+"!"+s, api.ErrLong)
		checkMark(t, full+"# 33\n  !"+s, api.ErrLong)
	}
	// What is wrong ahead of it, or is no item, is told ahead of it.
	checkMark(t, "!zz;"+textOf(many(33)), api.ErrForm)
	checkMark(t, textOf(many(31))+"!"+textOf(many(1))+textOf(many(33)), api.ErrTwice)
	checkMark(t, full+"calendar z {!", api.ErrForm)
	checkMark(t, full+"zz; !%", api.ErrForm)
	checkRead(t, full+strings.Repeat(" ", api.MaxText+1-len(full)), nil, 0, api.ErrLong)
	checkRead(t, full+strings.Repeat(" ", api.MaxText-len(full)), many(32), 0, api.OK)
}

// P12.3

func TestPrint(t *testing.T) {
	for _, l := range [][]api.Cal{nil, {}} {
		if s, e := Print(l); s != "" || e != api.OK {
			t.Errorf("got %q, %d", s, e)
		}
	}
	for i := range ends() {
		if s, e := Print(ends()[i : i+1]); s != lines[i] || e != api.OK {
			t.Errorf("Print(%+v): got %q, %d", ends()[i], s, e)
		}
	}
	if s, e := Print(ends()); s != strings.Join(lines, "") || e != api.OK {
		t.Errorf("got %q, %d", s, e)
	}
	for n := range 33 {
		if s, e := Print(many(n)); s != textOf(many(n)) || e != api.OK {
			t.Errorf("%d: got %q, %d", n, s, e)
		}
	}
}

func TestFind(t *testing.T) {
	for n := range 33 {
		l := many(n)
		for i, c := range l {
			if got, e := Find(l, c.Name); got != l[i] || e != api.OK {
				t.Errorf("Find(%d, %s): got %+v, %d", n, c.Name, got, e)
			}
		}
		for _, name := range []string{"", "c", "c0", "c33", "C1", "c1 ", "c-1", "l", "calendar", "c" + strconv.Itoa(n+1)} {
			if c, e := Find(l, name); c != (api.Cal{}) || e != api.ErrNone {
				t.Errorf("Find(%d, %q): got %+v, %d", n, name, c, e)
			}
		}
	}
	if c, e := Find([]api.Cal{}, "a"); c != (api.Cal{}) || e != api.ErrNone {
		t.Errorf("got %+v, %d", c, e)
	}
}

// P12.4

// TestReadOfPrint writes lists of chance, and reads them again: also in the way in which they are laid out.
func TestReadOfPrint(t *testing.T) {
	chance := rand.New(rand.NewPCG(12, 12))
	for range 300 {
		l := many(chance.IntN(33))
		for i := range l {
			c := &l[i]
			c.First = 1602 + chance.IntN(9996-1602+1)
			c.Last = min(9996, c.First+chance.IntN(400))
			if c.Kind <= 2 {
				c.Day, c.Month, c.Shift = 1+chance.IntN(7), 1+chance.IntN(12), chance.IntN(2)
			}
			if c.Kind != 6 {
				c.Policy = 1 + chance.IntN(3)
			}
		}
		s, e := Print(l)
		if e != api.OK {
			t.Fatalf("Print(%+v): got %d", l, e)
		}
		checkRead(t, s, l, 0, api.OK)
		if again, at, e := layout.Canon(s); again != s || at != 0 || e != api.OK {
			t.Errorf("got %q, %d, %d, want %q", again, at, e, s)
		}
	}
}

// TestAnswersAreNew writes into what was told, and into what was handed in.
func TestAnswersAreNew(t *testing.T) {
	s := strings.Join(lines, "")
	l, _, _ := Read(s)
	for i := range l {
		l[i] = api.Cal{Name: "x"}
	}
	checkRead(t, s, ends(), 0, api.OK)
	handed := many(8)
	text, _ := Print(handed)
	c, _ := Find(handed, "c8")
	if Check(handed) != api.OK || !slices.Equal(handed, many(8)) {
		t.Errorf("got %+v", handed)
	}
	handed[7], handed[0] = api.Cal{}, api.Cal{Name: "y"}
	if text != textOf(many(8)) || c != many(8)[7] {
		t.Errorf("got %q, %+v", text, c)
	}
}
