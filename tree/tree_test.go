package tree

import (
	"fmt"
	"math/rand/v2"
	"slices"
	"strings"
	"testing"

	"quarterday/api"
	"quarterday/lex"
	"quarterday/probe"
)

const (
	least = -1 << 63
	most  = 1<<63 - 1
	// name16 is as long as a name may be.
	name16 = "abcdefghijklmnop"
)

func name(at int, s string) api.Word { return api.Word{S: s, At: at} }

func num(at, n int) api.Word { return api.Word{Num: true, N: n, At: at} }

// line is an item without a block, block one with it.
func line(at int, s string, words ...api.Word) api.Node {
	return api.Node{Name: s, At: at, Words: words}
}

func block(head api.Node, kids ...api.Node) api.Node {
	head.Block, head.Kids = true, kids
	return head
}

// nest puts items into so many blocks.
func nest(many int, l ...api.Node) []api.Node {
	for range many {
		l = []api.Node{block(line(0, "b"), l...)}
	}
	return l
}

// show writes all that is in items, with their places or without.
func show(l []api.Node, places bool) string {
	var b strings.Builder
	at := func(place int) string {
		if places {
			return fmt.Sprintf("%d:", place)
		}
		return ""
	}
	for _, n := range l {
		fmt.Fprintf(&b, "(%s%q", at(n.At), n.Name)
		for _, w := range n.Words {
			fmt.Fprintf(&b, " %s%v,%d,%q", at(w.At), w.Num, w.N, w.S)
		}
		fmt.Fprintf(&b, " %v%s)", n.Block, show(n.Kids, places))
	}
	return b.String()
}

// checkParse holds what Parse tells against all of what it should.
func checkParse(t *testing.T, s string, want []api.Node, wantAt int, wantE api.Errno) {
	t.Helper()
	l, at, e := Parse(s)
	if show(l, true) != show(want, true) || at != wantAt || e != wantE {
		t.Errorf("Parse(%.80q): got %.300s, %d, %d, want %.300s, %d, %d", s, show(l, true), at, e, show(want, true), wantAt, wantE)
	}
}

func check(t *testing.T, l []api.Node, want api.Errno) {
	t.Helper()
	if e := Check(l); e != want {
		t.Errorf("Check(%.300s): got %d, want %d", show(l, false), e, want)
	}
}

// fault is what slow stops at.
type fault struct {
	at int
	e  api.Errno
}

// slow reads items by going down into blocks, apart from the program.
type slow struct {
	s string
	l []api.Token
}

func (p *slow) kind() int {
	if len(p.l) == 0 {
		return 0
	}
	return p.l[0].Kind
}

func (p *slow) fail(e api.Errno) {
	if len(p.l) == 0 {
		panic(fault{len(p.s), e})
	}
	panic(fault{p.l[0].At, e})
}

func (p *slow) next() api.Token {
	t := p.l[0]
	p.l = p.l[1:]
	return t
}

func (p *slow) items(blocks int) []api.Node {
	var l []api.Node
	for p.kind() == api.NameK {
		l = append(l, p.item(blocks))
	}
	return l
}

func (p *slow) item(blocks int) api.Node {
	head := p.next()
	n := line(head.At, head.S)
	for p.kind() == api.NameK || p.kind() == api.NumK {
		if len(n.Words) == 8 {
			p.fail(api.ErrLong)
		}
		t := p.next()
		if t.Kind == api.NumK {
			n.Words = append(n.Words, num(t.At, t.N))
		} else {
			n.Words = append(n.Words, name(t.At, t.S))
		}
	}
	switch {
	case p.kind() == api.EndK:
		p.next()
		return n
	case p.kind() != api.OpenK:
		p.fail(api.ErrForm)
	case blocks == 6:
		p.fail(api.ErrDeep)
	}
	p.next()
	n = block(n, p.items(blocks+1)...)
	if p.kind() != api.CloseK {
		p.fail(api.ErrForm)
	}
	p.next()
	return n
}

// slowParse reads a text by slow.
func slowParse(s string) (l []api.Node, at int, e api.Errno) {
	tokens, at, e := lex.Cut(s)
	if e != api.OK {
		return nil, at, e
	}
	defer func() {
		if f, is := recover().(fault); is {
			l, at, e = nil, f.at, f.e
		}
	}()
	p := &slow{s: s, l: tokens}
	l = p.items(0)
	if len(p.l) > 0 {
		p.fail(api.ErrForm)
	}
	return l, 0, api.OK
}

// P9.1

// wrongWords are neither numbers nor names.
var wrongWords = []api.Word{
	{}, {At: 4}, {N: 1}, {S: "A"}, {S: "9"}, {S: "12"}, {S: "-a"}, {S: "a b"}, {S: ";"}, {S: "{"}, {S: "a\x00"}, {S: "ä"}, {S: name16 + "q"}, {S: strings.Repeat("a", 70000)},
	{S: "a", N: 1}, {S: "a", N: -1}, {S: "a", N: least},
	{Num: true, N: -1}, {Num: true, N: 1000000000}, {Num: true, N: least}, {Num: true, N: most}, {Num: true, N: 1 << 32}, {Num: true, N: -1 << 32},
	{Num: true, S: "a"}, {Num: true, N: 1, S: "1"}, {Num: true, S: "0"}, {Num: true, N: 7, S: " "}, {Num: true, N: -1, S: "a"},
}

// wrongNames are no names.
var wrongNames = []string{"", "A", "aB", "9", "9a", "-", "-a", "a_b", "a b", " a", "a ", "a;", "{", "}", ";", "#", "a\n", "\x00", "ä", name16 + "q", strings.Repeat("a", 70000)}

func TestCheck(t *testing.T) {
	words := slices.Repeat([]api.Word{num(0, 0)}, 8)
	for _, l := range [][]api.Node{
		nil,
		{},
		{line(0, "a")},
		{line(0, name16)},
		{line(0, "a-9-")},
		{line(0, "a", num(0, 0))},
		{line(0, "a", num(0, 999999999))},
		{line(0, "a", name(0, "a"))},
		{line(0, "a", name(0, name16), num(0, 12), name(0, "x-"))},
		{line(0, "a", words...)},
		{block(line(0, "a", words...))},
		{block(line(0, "a"))},
		{{Name: "a", Block: true, Kids: []api.Node{}, Words: []api.Word{}}},
		{{Name: "a", Kids: []api.Node{}, Words: []api.Word{}}},
		{line(0, "a"), line(0, "a"), block(line(0, "a"), line(0, "a"), block(line(0, "a")), line(0, "b")), line(0, "c")},
		// places are not looked at
		{line(-7, "a", num(-1, 1), name(least, "b")), line(most, "b"), block(line(3, "a"), line(2, "c", num(1, 1)), line(2, "d"))},
		nest(1), nest(6), nest(1, line(0, "a")), nest(6, line(0, "a", words...)), nest(6, line(0, "a"), line(0, "b"), line(0, "c")),
		append(nest(6), nest(6)...),
		nest(1, append(nest(5), nest(5)...)...),
	} {
		check(t, l, api.OK)
	}
}

// TestCheckRefuses puts each wrong thing alone, in a row with others, and into blocks.
func TestCheckRefuses(t *testing.T) {
	var wrong []api.Node
	for _, s := range wrongNames {
		wrong = append(wrong, line(0, s), block(line(0, s)))
	}
	for _, w := range wrongWords {
		wrong = append(wrong, line(0, "a", w), block(line(0, "a", w)), line(0, "a", num(0, 1), w), line(0, "a", w, name(0, "b")))
		wrong = append(wrong, line(0, "a", append(slices.Repeat([]api.Word{num(0, 1)}, 7), w)...))
	}
	for _, many := range []int{9, 10, 16, 264, 8192, 70000} {
		words := slices.Repeat([]api.Word{name(0, "b")}, many)
		wrong = append(wrong, line(0, "a", words...), block(line(0, "a", words...)))
	}
	wrong = append(wrong,
		api.Node{Name: "a", Kids: []api.Node{line(0, "b")}},
		api.Node{Name: "a", Kids: nest(1)},
		api.Node{Name: "a", Kids: []api.Node{{}}},
		api.Node{Name: "a", Kids: nest(7)},
		api.Node{},
		api.Node{Block: true},
	)
	for _, n := range wrong {
		check(t, []api.Node{n}, api.ErrArg)
		check(t, []api.Node{line(0, "a"), n}, api.ErrArg)
		check(t, []api.Node{n, line(0, "a")}, api.ErrArg)
		check(t, nest(1, n), api.ErrArg)
		check(t, nest(6, line(0, "a"), n), api.ErrArg)
		check(t, append(nest(6), n), api.ErrArg)
	}
	for many := 7; many <= 12; many++ {
		check(t, nest(many), api.ErrDeep)
		check(t, nest(many, line(0, "a")), api.ErrDeep)
		check(t, append([]api.Node{line(0, "a")}, nest(many)...), api.ErrDeep)
		check(t, append(nest(6), nest(many)...), api.ErrDeep)
	}
	check(t, nest(1000), api.ErrDeep)
}

// TestCheckTellsTheFirst holds Check against items of which two are wrong.
func TestCheckTellsTheFirst(t *testing.T) {
	bad, deep := line(0, "A"), nest(7)[0]
	kids := api.Node{Name: "a", Kids: []api.Node{line(0, "b")}}
	for _, x := range []struct {
		l    []api.Node
		want api.Errno
	}{
		{[]api.Node{bad, deep}, api.ErrArg},
		{[]api.Node{deep, bad}, api.ErrDeep},
		{[]api.Node{kids, deep}, api.ErrArg},
		{[]api.Node{deep, kids}, api.ErrDeep},
		// what stands in a block is told ahead of what stands behind it
		{[]api.Node{block(line(0, "a"), bad), deep}, api.ErrArg},
		{[]api.Node{block(line(0, "a"), nest(6)...), bad}, api.ErrDeep},
		{nest(6, block(line(0, "a"), bad)), api.ErrDeep},
		{nest(6, bad, block(line(0, "a"))), api.ErrArg},
		{nest(6, block(line(0, "a")), bad), api.ErrDeep},
		{nest(5, append(nest(2), bad)...), api.ErrDeep},
		{nest(5, append([]api.Node{bad}, nest(2)...)...), api.ErrArg},
		// of one item it is told last that it stands too deep
		{nest(6, block(bad)), api.ErrArg},
		{nest(6, block(line(0, "a", api.Word{}))), api.ErrArg},
		{nest(6, block(line(0, "a", slices.Repeat([]api.Word{num(0, 1)}, 9)...))), api.ErrArg},
		{nest(6, api.Node{Name: "a", Kids: nest(1)}), api.ErrArg},
		{nest(6, block(line(0, "a"), block(bad))), api.ErrDeep},
	} {
		check(t, x.l, x.want)
	}
}

// grow makes items by chance, of which few are wrong.
func grow(r *rand.Rand, deep int) []api.Node {
	var l []api.Node
	for range r.IntN(4) {
		n := line(r.IntN(9), []string{"a", "b", "c", name16}[r.IntN(4)])
		for range r.IntN(3) {
			n.Words = append(n.Words, []api.Word{num(3, 0), num(4, 1), name(5, "a"), name(6, "b")}[r.IntN(4)])
		}
		if deep > 0 && r.IntN(2) == 0 {
			n = block(n, grow(r, deep-1)...)
		}
		switch r.IntN(60) {
		case 0:
			n.Name = wrongNames[r.IntN(len(wrongNames))]
		case 1:
			n.Words = append(n.Words, wrongWords[r.IntN(len(wrongWords))])
		case 2:
			n.Block = !n.Block
		case 3:
			n.Words = slices.Repeat([]api.Word{num(0, 1)}, 7+r.IntN(4))
		case 4:
			n = block(n, nest(r.IntN(7))...)
		}
		l = append(l, n)
	}
	return l
}

// eachNode hands on all items in order, each with the blocks in which it stands.
func eachNode(l []api.Node, blocks int, do func(n api.Node, blocks int)) {
	for _, n := range l {
		do(n, blocks)
		inner := blocks
		if n.Block {
			inner++
		}
		eachNode(n.Kids, inner, do)
	}
}

// slowCheck gathers the errors of all items, and tells the first.
func slowCheck(l []api.Node) api.Errno {
	errors := []api.Errno{}
	eachNode(l, 0, func(n api.Node, blocks int) {
		right := lex.Name(n.Name) && len(n.Words) < 9 && (n.Block || len(n.Kids) == 0)
		for _, w := range n.Words {
			w.At = 0
			right = right && (lex.Name(w.S) && w == name(0, w.S) || w.N >= 0 && w.N < 1000000000 && w == num(0, w.N))
		}
		if !right {
			errors = append(errors, api.ErrArg)
		} else if n.Block && blocks >= 6 {
			errors = append(errors, api.ErrDeep)
		}
	})
	return append(errors, api.OK)[0]
}

func TestCheckAndDeepByChance(t *testing.T) {
	r := rand.New(rand.NewPCG(9, 1))
	many := map[api.Errno]int{}
	for range 20000 {
		l := grow(r, 4)
		want := slowCheck(l)
		many[want]++
		check(t, l, want)
		deep := 0
		eachNode(l, 0, func(n api.Node, blocks int) {
			if n.Block {
				deep = max(deep, blocks+1)
			}
		})
		if n := Deep(l); n != deep {
			t.Errorf("Deep(%s): got %d, want %d", show(l, false), n, deep)
		}
	}
	if many[api.OK] < 1000 || many[api.ErrArg] < 1000 || many[api.ErrDeep] < 50 {
		t.Errorf("chance made %v", many)
	}
}

func TestDeep(t *testing.T) {
	for many := range 40 {
		if n := Deep(nest(many)); n != many {
			t.Errorf("of %d blocks: got %d", many, n)
		}
		if n := Deep(nest(many, line(0, "a"), line(0, "b"))); n != many {
			t.Errorf("of %d blocks: got %d", many, n)
		}
	}
	for _, x := range []struct {
		l    []api.Node
		want int
	}{
		{[]api.Node{}, 0},
		{[]api.Node{line(0, "a"), line(0, "b", num(0, 1))}, 0},
		{[]api.Node{line(0, "a"), block(line(0, "b"))}, 1},
		{[]api.Node{block(line(0, "a")), block(line(0, "b")), block(line(0, "c"))}, 1},
		{append(nest(3), nest(2)...), 3},
		{append(nest(2), nest(3)...), 3},
		{append(append(nest(1), nest(4)...), nest(2)...), 4},
		{nest(2, append(nest(1), nest(3)...)...), 5},
		{nest(6000), 6000},
		// what is no block does not count, but what stands in it does
		{[]api.Node{{Name: "a", Kids: []api.Node{line(0, "b")}}}, 0},
		{[]api.Node{{Name: "a", Kids: nest(2)}}, 2},
		{nest(2, api.Node{Kids: nest(3)}), 5},
		{[]api.Node{{Block: true}}, 1},
	} {
		if n := Deep(x.l); n != x.want {
			t.Errorf("Deep(%.300s): got %d, want %d", show(x.l, false), n, x.want)
		}
	}
}

// unlike are items that all differ.
var unlike = [][]api.Node{
	nil,
	{line(0, "a")},
	{line(0, "b")},
	{{}},
	{line(0, "a"), line(0, "b")},
	{line(0, "b"), line(0, "a")},
	{line(0, "a"), line(0, "a")},
	{line(0, "a"), line(0, "a"), line(0, "a")},
	{line(0, "a", num(0, 0))},
	{line(0, "a", num(0, 1))},
	{line(0, "a", num(0, -1))},
	{line(0, "a", name(0, ""))},
	{line(0, "a", name(0, "a"))},
	{line(0, "a", name(0, "b"))},
	{line(0, "a", api.Word{N: 1})},
	{line(0, "a", api.Word{N: 1, S: "a"})},
	{line(0, "a", api.Word{Num: true, S: "a"})},
	{line(0, "a", api.Word{Num: true, N: 1, S: "a"})},
	{line(0, "a", num(0, 1), num(0, 2))},
	{line(0, "a", num(0, 2), num(0, 1))},
	{line(0, "a", num(0, 1), num(0, 2), num(0, 3))},
	{line(0, "a", num(0, 12))},
	{line(0, "a", name(0, "x"), num(0, 1))},
	{line(0, "a", num(0, 1), name(0, "x"))},
	{block(line(0, "a"))},
	{block(line(0, "b"))},
	{block(line(0, "a", num(0, 1)))},
	{block(line(0, "a"), line(0, "a"))},
	{block(line(0, "a"), line(0, "b"))},
	{block(line(0, "a"), line(0, "b", num(0, 7)))},
	{block(line(0, "a"), line(0, "a"), line(0, "b"))},
	{block(line(0, "a"), line(0, "b"), line(0, "a"))},
	{block(line(0, "a")), line(0, "b")},
	{block(line(0, "a"), block(line(0, "b")))},
	{block(line(0, "a")), block(line(0, "b"))},
	{block(line(0, "a"), block(line(0, "b")), line(0, "c"))},
	{block(line(0, "a"), block(line(0, "b"), line(0, "c")))},
	{{Name: "a", Kids: []api.Node{line(0, "b")}}},
	{{Name: "a", Kids: nest(1)}},
	nest(5), nest(6), nest(7), nest(6, line(0, "x")), nest(6, line(0, "y")), nest(6, line(0, "x", num(0, 1))), nest(6, line(0, "x", num(0, 2))),
}

// moved are the same items at other places, with empty lists where there were none.
func moved(l []api.Node, by int) []api.Node {
	to := []api.Node{}
	for _, n := range l {
		words := []api.Word{}
		for _, w := range n.Words {
			w.At += by * len(words)
			words = append(words, w)
		}
		to = append(to, api.Node{Name: n.Name, At: n.At - by, Words: words, Block: n.Block, Kids: moved(n.Kids, by+1)})
	}
	return to
}

func TestSame(t *testing.T) {
	for i, a := range unlike {
		for k, b := range unlike {
			for _, c := range [][]api.Node{b, moved(b, 0), moved(b, 5), moved(b, -9)} {
				if Same(a, c) != (i == k) || Same(c, a) != (i == k) || Same(nest(2, a...), nest(2, c...)) != (i == k) {
					t.Errorf("Same(%s, %s): got %v", show(a, true), show(c, true), i != k)
				}
			}
		}
	}
	if !Same(nil, []api.Node{}) || !Same(nest(3000), moved(nest(3000), 1)) || Same(nest(3000), nest(3001)) {
		t.Error("compared wrongly")
	}
}

// TestSameByChance holds Same against texts of all that is in items.
func TestSameByChance(t *testing.T) {
	r := rand.New(rand.NewPCG(9, 2))
	last := []api.Node{}
	for range 20000 {
		l := grow(r, 1)
		if want := show(l, false) == show(last, false); Same(l, last) != want {
			t.Errorf("Same(%s, %s): got %v", show(l, true), show(last, true), !want)
		}
		last = l
	}
}

// P9.2

func TestParse(t *testing.T) {
	eight := line(0, "a")
	for i := range 8 {
		eight.Words = append(eight.Words, num(2+2*i, i+1))
	}
	for _, x := range []struct {
		s    string
		want []api.Node
	}{
		{"", nil},
		{" \t\n", nil},
		{"# a { ;", nil},
		{"a;", []api.Node{line(0, "a")}},
		{" a ; ", []api.Node{line(1, "a")}},
		{"a 1;", []api.Node{line(0, "a", num(2, 1))}},
		{"a 0 999999999;", []api.Node{line(0, "a", num(2, 0), num(4, 999999999))}},
		{"a b;", []api.Node{line(0, "a", name(2, "b"))}},
		{"a\n" + name16 + " 1 #;\n;", []api.Node{line(0, "a", name(2, name16), num(19, 1))}},
		{"a;b;", []api.Node{line(0, "a"), line(2, "b")}},
		{"a;a;a;", []api.Node{line(0, "a"), line(2, "a"), line(4, "a")}},
		{"a 1 2 3 4 5 6 7 8;", []api.Node{eight}},
		{"a 1 2 3 4 5 6 7 8{}", []api.Node{block(eight)}},
		{"a{}", []api.Node{block(line(0, "a"))}},
		{"a {\n}\n", []api.Node{block(line(0, "a"))}},
		{"a{}b;", []api.Node{block(line(0, "a")), line(3, "b")}},
		{"a{}b{}c;", []api.Node{block(line(0, "a")), block(line(3, "b")), line(6, "c")}},
		{"a b 1 { c; }", []api.Node{block(line(0, "a", name(2, "b"), num(4, 1)), line(8, "c"))}},
		{"a{b;c 2;}d;", []api.Node{block(line(0, "a"), line(2, "b"), line(4, "c", num(6, 2))), line(9, "d")}},
		{"a{b{}}", []api.Node{block(line(0, "a"), block(line(2, "b")))}},
		{"a{b{}c;}d;", []api.Node{block(line(0, "a"), block(line(2, "b")), line(5, "c")), line(8, "d")}},
		{"a{b{c;}d{e;}}f;", []api.Node{block(line(0, "a"), block(line(2, "b"), line(4, "c")), block(line(7, "d"), line(9, "e"))), line(13, "f")}},
		{"a{b{c{d{e{f{g;}}}}}}", []api.Node{block(line(0, "a"), block(line(2, "b"), block(line(4, "c"), block(line(6, "d"), block(line(8, "e"), block(line(10, "f"), line(12, "g")))))))}},
		{"a{b{c{d{e{f{}}}}}}g{}", []api.Node{block(line(0, "a"), block(line(2, "b"), block(line(4, "c"), block(line(6, "d"), block(line(8, "e"), block(line(10, "f"))))))), block(line(18, "g"))}},
		{"calendar x { end last sat 1; }\nb;", []api.Node{block(line(0, "calendar", name(9, "x")), line(13, "end", name(17, "last"), name(22, "sat"), num(26, 1))), line(31, "b")}},
	} {
		checkParse(t, x.s, x.want, 0, api.OK)
	}
}

func TestParseRefuses(t *testing.T) {
	for _, x := range []struct {
		s  string
		at int
		e  api.Errno
	}{
		// where an item begins, or an open block ends
		{"1;", 0, api.ErrForm}, {"0", 0, api.ErrForm}, {";", 0, api.ErrForm}, {" ;", 1, api.ErrForm}, {"{", 0, api.ErrForm}, {"{ }", 0, api.ErrForm}, {"}", 0, api.ErrForm}, {"#}\n }", 4, api.ErrForm},
		{"a; 1;", 3, api.ErrForm}, {"a;;", 2, api.ErrForm}, {"a; {", 3, api.ErrForm}, {"a; }", 3, api.ErrForm}, {"a{}}", 3, api.ErrForm}, {"a{};", 3, api.ErrForm}, {"a{}1", 3, api.ErrForm}, {"a{}{}", 3, api.ErrForm},
		{"a{1}", 2, api.ErrForm}, {"a { ; }", 4, api.ErrForm}, {"a{{}}", 2, api.ErrForm}, {"a{b;1}", 4, api.ErrForm}, {"a{b;;}", 4, api.ErrForm}, {"a{b;{}}", 4, api.ErrForm}, {"a{b{}}}", 6, api.ErrForm}, {"a{b{};}", 5, api.ErrForm}, {"a{}b{}}", 6, api.ErrForm},
		// within an item
		{"a }", 2, api.ErrForm}, {"a 1 }", 4, api.ErrForm}, {"a b}", 3, api.ErrForm}, {"a{b}", 3, api.ErrForm}, {"a{b 1}", 5, api.ErrForm}, {"a 1 2 3 4 5 6 7 8 }", 18, api.ErrForm},
		{"a 1 2 3 4 5 6 7 8 9;", 18, api.ErrLong}, {"a 1 2 3 4 5 6 7 8 b;", 18, api.ErrLong}, {"a b c d e f g h i j{}", 18, api.ErrLong}, {"x{a 1 2 3 4 5 6 7 8 9}", 20, api.ErrLong}, {"a 1 2 3 4 5 6 7 8 9 10", 18, api.ErrLong}, {"b;a 1 2 3 4 5 6 7 8\n\n9", 21, api.ErrLong},
		// blocks too deep
		{"a{b{c{d{e{f{g{}}}}}}}", 13, api.ErrDeep}, {"a{b{c{d{e{f{g 1 {", 16, api.ErrDeep}, {"a{b{c{d{e{f{g;h{i;}}}}}}}", 15, api.ErrDeep}, {"a{b{c{d{e{f{}g{h{", 16, api.ErrDeep}, {"a{b{c{d{e{f{g 1 2 3 4 5 6 7 8{", 29, api.ErrDeep}, {"a{b{c{d{e{f{g{.", 14, api.ErrForm},
		// the text's end
		{"a", 1, api.ErrForm}, {"a ", 2, api.ErrForm}, {"a 1", 3, api.ErrForm}, {"a 1 # x", 7, api.ErrForm}, {"a\n", 2, api.ErrForm}, {"a;b", 3, api.ErrForm}, {"a {", 3, api.ErrForm}, {"a{ \n", 4, api.ErrForm}, {"a {b;", 5, api.ErrForm}, {"a {b; #}", 8, api.ErrForm}, {"a{b{}", 5, api.ErrForm}, {"a{b{};", 5, api.ErrForm}, {"a{b{}c", 6, api.ErrForm}, {"a 1 2 3 4 5 6 7 8", 17, api.ErrForm}, {"a{b{c{d{e{f{", 12, api.ErrForm}, {"a{b{c{d{e{f{g", 13, api.ErrForm},
		// the errors of tokens, also where an item is wrong ahead of them
		{"a . }", 2, api.ErrForm}, {"} 01", 2, api.ErrForm}, {"} B", 2, api.ErrForm}, {";;; a\r", 5, api.ErrForm}, {"a 1a;", 3, api.ErrForm}, {"} 1000000000", 2, api.ErrLong}, {"1 " + name16 + "q;", 2, api.ErrLong}, {"a 1 2 3 4 5 6 7 8 9 00", 20, api.ErrForm}, {"a{b{c{d{e{f{g{-", 14, api.ErrForm},
		{strings.Repeat(";", 8192), 0, api.ErrForm}, {strings.Repeat(";", 8193), 8192, api.ErrLong}, {strings.Repeat("a;", 4096) + " b", 8193, api.ErrLong}, {strings.Repeat(" ", 65537), 0, api.ErrLong}, {"}" + strings.Repeat(" ", 65536), 0, api.ErrLong},
		// two things wrong in the items
		{"1 }", 0, api.ErrForm}, {"a } 1", 2, api.ErrForm}, {"a 1 2 3 4 5 6 7 8 9 }", 18, api.ErrLong}, {"} a 1 2 3 4 5 6 7 8 9", 0, api.ErrForm}, {"a;} b", 2, api.ErrForm}, {"a{b{c{d{e{f{;g{", 12, api.ErrForm}, {"a{b{c{d{e{f{g{;", 13, api.ErrDeep},
	} {
		checkParse(t, x.s, nil, x.at, x.e)
	}
}

func TestParseOfLongTexts(t *testing.T) {
	l, at, e := Parse(strings.Repeat("a;", 4096))
	if len(l) != 4096 || at != 0 || e != api.OK || l[4095].At != 8190 {
		t.Errorf("got %d items, %d, %d", len(l), at, e)
	}
	checkParse(t, strings.Repeat(" ", 65534)+"a;", []api.Node{line(65534, "a")}, 0, api.OK)
	checkParse(t, strings.Repeat(" ", 65535)+"a", nil, 65536, api.ErrForm)
	checkParse(t, "a"+strings.Repeat(" ", 65535), nil, 65536, api.ErrForm)
}

// TestParseByGoingDown reads all texts of a few tokens, and more of longer pieces, and holds what may follow against them (P9.3, too).
func TestParseByGoingDown(t *testing.T) {
	each := func(s string) {
		want, at, e := slowParse(s)
		checkParse(t, s, want, at, e)
		if e == api.OK {
			checkFollows(t, s)
		}
	}
	probe.EachText([]string{"a ", "7 ", "{", "}", ";"}, 7, each)
	probe.EachText([]string{"a", "b 1 2 3 ", "12 x", "a{a{a{", "{", "}", "}}", ";", " ", "#;\n", "B"}, 5, each)
}

// P9.3

// tokensOf are the tokens of items, of which only names and words have places.
func tokensOf(l []api.Node) []api.Token {
	var all []api.Token
	for _, n := range l {
		all = append(all, api.Token{Kind: api.NameK, At: n.At, S: n.Name})
		for _, w := range n.Words {
			if w.Num {
				all = append(all, api.Token{Kind: api.NumK, At: w.At, N: w.N})
			} else {
				all = append(all, api.Token{Kind: api.NameK, At: w.At, S: w.S})
			}
		}
		if n.Block {
			all = append(all, api.Token{Kind: api.OpenK})
			all = append(all, tokensOf(n.Kids)...)
			all = append(all, api.Token{Kind: api.CloseK})
		} else {
			all = append(all, api.Token{Kind: api.EndK})
		}
	}
	return all
}

// checkFollows asks whether what is told of a text may be, and has its tokens.
func checkFollows(t *testing.T, s string) {
	t.Helper()
	l, _, _ := Parse(s)
	tokens, _, _ := lex.Cut(s)
	for i, x := range tokens {
		if x.Kind != api.NameK && x.Kind != api.NumK {
			tokens[i].At = 0
		}
	}
	if e := Check(l); e != api.OK || Deep(l) > 6 || !slices.Equal(tokensOf(l), tokens) {
		t.Errorf("%q: got %d, %d, %v, want %v", s, e, Deep(l), tokensOf(l), tokens)
	}
}

// TestWhatIsToldMayBe writes items that may be, with places by chance, as a text, and reads it.
func TestWhatIsToldMayBe(t *testing.T) {
	r := rand.New(rand.NewPCG(9, 3))
	for range 5000 {
		l := grow(r, 4)
		if slowCheck(l) != api.OK {
			continue
		}
		s, e := lex.Join(tokensOf(l))
		back, at, e2 := Parse(s)
		if e != api.OK || at != 0 || e2 != api.OK || show(back, false) != show(l, false) || !Same(back, l) {
			t.Fatalf("%q: got %s, %d, %d, want %s", s, show(back, false), at, e2, show(l, false))
		}
		checkFollows(t, s)
	}
}

// TestAnswersAreNew writes into what was told, and looks at what was handed in.
func TestAnswersAreNew(t *testing.T) {
	s := "a 1 2 3{b 4;c 5;}d 6;"
	want, _, _ := slowParse(s)
	l, _, _ := Parse(s)
	_ = append(l[0].Words, num(0, 9))
	_ = append(l[0].Kids, line(0, "x"))
	_ = append(l[0].Kids[0].Words, num(0, 9))
	if show(l, true) != show(want, true) {
		t.Errorf("lists of one answer share what is in them: %s", show(l, true))
	}
	l[0].Words[0], l[0].Kids[0] = num(0, 8), line(0, "z")
	checkParse(t, s, want, 0, api.OK)
	handed := nest(3, line(4, "a", num(6, 1)), line(8, "b"))
	before := show(handed, true)
	Check(handed)
	Deep(handed)
	Same(handed, moved(handed, 2))
	if show(handed, true) != before {
		t.Errorf("a call wrote into what it was handed: %s", show(handed, true))
	}
}
