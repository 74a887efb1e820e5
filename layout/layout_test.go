package layout

import (
	"math/rand/v2"
	"slices"
	"strconv"
	"strings"
	"testing"

	"quarterday/api"
	"quarterday/lex"
	"quarterday/probe"
	"quarterday/tree"
)

const (
	least = -1 << 63
	most  = 1<<63 - 1
	// name16 is as long as a name may be.
	name16 = "abcdefghijklmnop"
)

func name(s string) api.Word { return api.Word{S: s} }

func num(n int) api.Word { return api.Word{Num: true, N: n} }

// line is an item without a block, block one with it.
func line(s string, words ...api.Word) api.Node { return api.Node{Name: s, Words: words} }

func block(head api.Node, kids ...api.Node) api.Node {
	head.Block, head.Kids = true, kids
	return head
}

// nest puts items into so many blocks.
func nest(many int, l ...api.Node) []api.Node {
	for range many {
		l = []api.Node{block(line("b"), l...)}
	}
	return l
}

// short shows a text's beginning.
func short(s string) string {
	if len(s) > 200 {
		return strconv.Quote(s[:200]) + ".. of " + strconv.Itoa(len(s))
	}
	return strconv.Quote(s)
}

func checkPrint(t *testing.T, l []api.Node, want string, wantE api.Errno) {
	t.Helper()
	if s, e := Print(l); s != want || e != wantE {
		t.Errorf("got %s, %d, want %s, %d", short(s), e, short(want), wantE)
	}
}

func checkCanon(t *testing.T, s, want string, wantAt int, wantE api.Errno) {
	t.Helper()
	if c, at, e := Canon(s); c != want || at != wantAt || e != wantE {
		t.Errorf("Canon(%s): got %s, %d, %d, want %s, %d, %d", short(s), short(c), at, e, short(want), wantAt, wantE)
	}
}

// slowCanon writes a text anew sign by sign, apart from items: at each line's end what stands behind it goes on a line of its own, as far in as blocks are open.
func slowCanon(s string) (string, api.Errno) {
	tokens, _, _ := lex.Cut(s)
	out, open, begins := "", 0, true
	for _, t := range tokens {
		if t.Kind == api.CloseK {
			open--
		}
		if begins {
			out += strings.Repeat(" ", 2*open)
		} else if t.Kind != api.EndK {
			out += " "
		}
		begins = false
		switch t.Kind {
		case api.NameK:
			out += t.S
			continue
		case api.NumK:
			out += strconv.Itoa(t.N)
			continue
		case api.OpenK:
			out, open = out+"{", open+1
		case api.CloseK:
			out += "}"
		case api.EndK:
			out += ";"
		}
		out, begins = out+"\n", true
	}
	if len(out) > 65536 {
		return "", api.ErrLong
	}
	return out, api.OK
}

// P10.1

func TestPrint(t *testing.T) {
	end := line("end", name("last"), num(999999999))
	for _, x := range []struct {
		l    []api.Node
		want string
	}{
		{nil, ""},
		{[]api.Node{}, ""},
		{[]api.Node{line("a")}, "a;\n"},
		{[]api.Node{line(name16)}, name16 + ";\n"},
		{[]api.Node{line("a", num(0))}, "a 0;\n"},
		{[]api.Node{line("a", num(10), num(7))}, "a 10 7;\n"},
		{[]api.Node{line("a", name("b-"), num(1), name(name16))}, "a b- 1 " + name16 + ";\n"},
		{[]api.Node{line("a", num(1), num(2), num(3), num(4), num(5), num(6), num(7), name("x"))}, "a 1 2 3 4 5 6 7 x;\n"},
		{[]api.Node{line("a"), line("b"), line("a")}, "a;\nb;\na;\n"},
		{[]api.Node{end, block(line("b"), end)}, "end last 999999999;\nb {\n  end last 999999999;\n}\n"},
		{[]api.Node{block(line("a"))}, "a {\n}\n"},
		{[]api.Node{{Name: "a", Block: true, Words: []api.Word{}, Kids: []api.Node{}}}, "a {\n}\n"},
		{[]api.Node{block(line("a", num(0), name("b")))}, "a 0 b {\n}\n"},
		{[]api.Node{block(line("a", num(1), num(2), num(3), num(4), num(5), num(6), num(7), num(8)))}, "a 1 2 3 4 5 6 7 8 {\n}\n"},
		{[]api.Node{block(line("a")), block(line("b"))}, "a {\n}\nb {\n}\n"},
		{[]api.Node{block(line("a"), line("b"), block(line("c"), line("d", num(1))), line("e")), line("f")}, "a {\n  b;\n  c {\n    d 1;\n  }\n  e;\n}\nf;\n"},
		{[]api.Node{block(line("a"), block(line("b")), block(line("c")))}, "a {\n  b {\n  }\n  c {\n  }\n}\n"},
		{nest(6), "b {\n  b {\n    b {\n      b {\n        b {\n          b {\n          }\n        }\n      }\n    }\n  }\n}\n"},
		{nest(6, line("a", num(1))), "b {\n  b {\n    b {\n      b {\n        b {\n          b {\n            a 1;\n          }\n        }\n      }\n    }\n  }\n}\n"},
		// places are not looked at
		{[]api.Node{{Name: "b", At: 9, Words: []api.Word{{Num: true, At: -1}}}, {Name: "a", At: least, Block: true, Kids: []api.Node{{Name: "c", At: most}}}}, "b 0;\na {\n  c;\n}\n"},
	} {
		checkPrint(t, x.l, x.want, api.OK)
	}
}

func TestPrintRefuses(t *testing.T) {
	bad := line("B")
	for _, n := range []api.Node{
		{}, bad, line(name16 + "q"), line("a", api.Word{}), line("a", num(-1)), line("a", num(1000000000)), line("a", name("1")), line("a", api.Word{Num: true, S: "b"}), line("a", api.Word{S: "b", N: 1}),
		line("a", slices.Repeat([]api.Word{num(1)}, 9)...), {Name: "a", Kids: []api.Node{line("b")}}, block(bad), block(line("a"), bad),
	} {
		checkPrint(t, []api.Node{n}, "", api.ErrArg)
		checkPrint(t, []api.Node{line("a"), n}, "", api.ErrArg)
		checkPrint(t, append(nest(5, n), line("a")), "", api.ErrArg)
		// what may not be is told ahead of what is too much
		checkPrint(t, append(slices.Repeat([]api.Node{line(name16)}, 5000), n), "", api.ErrArg)
		checkPrint(t, append(slices.Repeat([]api.Node{line(name16)}, 4000), n), "", api.ErrArg)
	}
	checkPrint(t, nest(7), "", api.ErrDeep)
	checkPrint(t, nest(9, line("a")), "", api.ErrDeep)
	checkPrint(t, append(nest(7), bad), "", api.ErrDeep)
	checkPrint(t, append([]api.Node{bad}, nest(7)...), "", api.ErrArg)
	checkPrint(t, nest(6, block(bad)), "", api.ErrArg)
	checkPrint(t, append(slices.Repeat([]api.Node{line(name16)}, 5000), nest(7)...), "", api.ErrDeep)
}

// TestPrintOfManyTokens writes items that have as many tokens as there may be, and one more.
func TestPrintOfManyTokens(t *testing.T) {
	nine := line("a", slices.Repeat([]api.Word{num(1)}, 7)...)
	for i, x := range []struct {
		l    []api.Node
		last api.Node
		more int
	}{
		{slices.Repeat([]api.Node{line("a")}, 4095), line("a"), 0},
		{slices.Repeat([]api.Node{line("a")}, 4095), line("a", num(1)), 1},
		{slices.Repeat([]api.Node{line("a")}, 4095), block(line("a")), 1},
		{slices.Repeat([]api.Node{line("a")}, 4095), line("a", num(1), num(2)), 2},
		{slices.Repeat([]api.Node{block(line("a"))}, 2730), line("a"), 0},
		{slices.Repeat([]api.Node{block(line("a"))}, 2730), block(line("a")), 1},
		{slices.Repeat([]api.Node{block(line("a"))}, 2729), block(line("a"), line("a")), 0},
		{slices.Repeat([]api.Node{block(line("a"))}, 2729), block(line("a"), line("a", num(7))), 1},
		{slices.Repeat([]api.Node{nine}, 910), line("a"), 0},
		{slices.Repeat([]api.Node{nine}, 910), line("a", name("b")), 1},
		{nest(1, slices.Repeat([]api.Node{line("a")}, 4093)...), block(line("a")), 0},
		{nest(1, slices.Repeat([]api.Node{line("a")}, 4093)...), line("a", num(1), num(2)), 1},
		{nest(2, slices.Repeat([]api.Node{line("a")}, 4092)...), line("a"), 0},
		{nest(2, slices.Repeat([]api.Node{line("a")}, 4092)...), line("a", num(1)), 1},
	} {
		l := append(x.l, x.last)
		s, e := Print(l)
		tokens, _, _ := lex.Cut(s)
		if x.more == 0 && (len(tokens) != 8192 || e != api.OK) || x.more > 0 && (s != "" || e != api.ErrLong) {
			t.Errorf("%d: got %d tokens, %d", i, len(tokens), e)
		}
	}
	checkPrint(t, slices.Repeat([]api.Node{line("a")}, 60000), "", api.ErrLong)
	// too many tokens and too long a text at once
	checkPrint(t, slices.Repeat([]api.Node{line(name16)}, 5000), "", api.ErrLong)
	checkPrint(t, nest(6, slices.Repeat([]api.Node{line(name16)}, 5000)...), "", api.ErrLong)
}

// TestPrintOfLongTexts writes texts of as many bytes as there may be, and of one more.
func TestPrintOfLongTexts(t *testing.T) {
	// A line of name16 has 18 bytes, one of nines has 83; in six blocks it has 12 more.
	nines := line("a", slices.Repeat([]api.Word{num(999999999)}, 8)...)
	for i, x := range []struct {
		l     []api.Node
		bytes int
	}{
		{slices.Repeat([]api.Node{line(name16[:14])}, 4096), 65536},
		{append(slices.Repeat([]api.Node{line(name16[:14])}, 4095), line(name16[:13])), 65535},
		{append(slices.Repeat([]api.Node{line(name16[:14])}, 4095), line(name16[:15])), 65537},
		{append(slices.Repeat([]api.Node{line(name16)}, 3640), line(name16[:14])), 65536},
		{append(slices.Repeat([]api.Node{line(name16)}, 3640), line(name16[:15])), 65537},
		{append(slices.Repeat([]api.Node{nines}, 789), line(name16, name(name16), name(name16[:13]))), 65536},
		{append(slices.Repeat([]api.Node{nines}, 789), line(name16, name(name16), name(name16[:14]))), 65537},
		// A block has 6 bytes for its own two lines, and 4 more for each block in which it stands.
		{nest(1, append(slices.Repeat([]api.Node{line(name16[:14])}, 3640), line("abcdefg"))...), 65537},
		{nest(1, append(slices.Repeat([]api.Node{line(name16[:14])}, 3640), line("abcdef"))...), 65536},
		{nest(6, append(slices.Repeat([]api.Node{line(name16)}, 2181), line("abcd"))...), 65544},
		{append(nest(6, slices.Repeat([]api.Node{line(name16)}, 2181)...), line("abcdefgh")), 65536},
		{append(nest(6, slices.Repeat([]api.Node{line(name16)}, 2181)...), line("abcdefghi")), 65537},
	} {
		s, e := Print(x.l)
		if x.bytes <= 65536 && (len(s) != x.bytes || e != api.OK) || x.bytes > 65536 && (s != "" || e != api.ErrLong) {
			t.Errorf("%d with %d bytes: got %d bytes, %d", i, x.bytes, len(s), e)
		}
	}
}

// P10.2

func TestCanon(t *testing.T) {
	for _, x := range []struct{ s, want string }{
		{"", ""},
		{" \n\t", ""},
		{"# a;", ""},
		{"a;", "a;\n"},
		{"a 1{b;}", "a 1 {\n  b;\n}\n"},
		{"a\n;b 0 x { c{} d 2;\n}e;", "a;\nb 0 x {\n  c {\n  }\n  d 2;\n}\ne;\n"},
		{"  a # one\n\t\t1 # 1\n; # end\n# B", "a 1;\n"},
		{"a{b{c{d{e{f{g 999999999;}}}}}}h;", "a {\n  b {\n    c {\n      d {\n        e {\n          f {\n            g 999999999;\n          }\n        }\n      }\n    }\n  }\n}\nh;\n"},
		{"calendar shop { end nrf; shape pat 4 5 4; serve 2000 2030; compare shift; }", "calendar shop {\n  end nrf;\n  shape pat 4 5 4;\n  serve 2000 2030;\n  compare shift;\n}\n"},
		{"a {\n  b;\n}\n", "a {\n  b;\n}\n"},
		{"a {\n\tb;\n\n}", "a {\n  b;\n}\n"},
		{strings.Repeat(" ", 65534) + "a;", "a;\n"},
	} {
		checkCanon(t, x.s, x.want, 0, api.OK)
	}
}

func TestCanonRefuses(t *testing.T) {
	for _, x := range []struct {
		s  string
		at int
		e  api.Errno
	}{
		{"a 1{b;", 6, api.ErrForm}, {"a", 1, api.ErrForm}, {"a; }", 3, api.ErrForm}, {"1;", 0, api.ErrForm}, {"a }", 2, api.ErrForm}, {"a 01;", 2, api.ErrForm}, {"a B;", 2, api.ErrForm}, {"a; 1a", 4, api.ErrForm},
		{"a 1 2 3 4 5 6 7 8 9;", 18, api.ErrLong}, {"a; " + name16 + "q;", 3, api.ErrLong}, {" a 1000000000;", 3, api.ErrLong}, {strings.Repeat(" ", 65537), 0, api.ErrLong}, {strings.Repeat("a;", 4096) + " a;", 8193, api.ErrLong}, {strings.Repeat(";", 8193), 8192, api.ErrLong},
		{"a{b{c{d{e{f{g{}}}}}}}", 13, api.ErrDeep}, {"a{b{c{d{e{f{g;h{", 15, api.ErrDeep},
		// what is wrong is told ahead of too long a text
		{"a{b{c{d{e{f{" + strings.Repeat("abcdefgh;", 4050) + "}}}}}", 12 + 9*4050 + 5, api.ErrForm}, {"a{" + strings.Repeat(name16+";", 3700) + "B}", 2 + 17*3700, api.ErrForm},
	} {
		checkCanon(t, x.s, "", x.at, x.e)
	}
}

// TestCanonOfLongTexts writes texts anew that are short enough to be read, but grow when they are laid out.
func TestCanonOfLongTexts(t *testing.T) {
	for i, x := range []struct {
		ahead, lines, behind string
		many, bytes          int
	}{
		{"", "a;", "", 4096, 12288},
		{"", name16[:14] + ";", "", 4096, 65536},
		{"", name16[:14] + ";", " a;", 4095, 65523},
		{"a;", name16[:14] + ";", "", 4095, 65523},
		{"a", name16[:14] + ";", "", 4096, 65537},
		{"", name16 + ";", name16[:14] + ";", 3640, 65536},
		{"", name16 + ";", name16[:15] + ";", 3640, 65537},
		{"b{", name16[:14] + ";", "abcdef;}", 3640, 65536},
		{"b{", name16[:14] + ";", "abcdefg;}", 3640, 65537},
		{"b{b{b{b{b{b{", name16 + ";", "}}}}}}abcdefgh;", 2181, 65536},
		{"b{b{b{b{b{b{", name16 + ";", "}}}}}}abcdefghi;", 2181, 65537},
		{"b{b{b{b{b{b{", "abcdefgh;", "}}}}}}", 4050, 89196},
		{"b{b{b{b{b{", "a{}", "}}}}}", 2600, 67670},
	} {
		s := x.ahead + strings.Repeat(x.lines, x.many) + x.behind
		c, at, e := Canon(s)
		if at != 0 || x.bytes <= 65536 && (len(c) != x.bytes || e != api.OK) || x.bytes > 65536 && (c != "" || e != api.ErrLong) {
			t.Errorf("%d with %d bytes: got %d bytes, %d, %d", i, x.bytes, len(c), at, e)
		}
	}
}

// P10.3

// checkFollows holds what is written of a text against the text.
func checkFollows(t *testing.T, s string) {
	t.Helper()
	l, at, e := tree.Parse(s)
	if e != api.OK {
		checkCanon(t, s, "", at, e)
		return
	}
	want, e := slowCanon(s)
	checkCanon(t, s, want, 0, e)
	if e != api.OK {
		return
	}
	checkCanon(t, want, want, 0, api.OK)
	checkPrint(t, l, want, api.OK)
	if back, _, e := tree.Parse(want); e != api.OK || !tree.Same(back, l) {
		t.Errorf("%s: what is written is not read as it was: %s, %d", short(s), short(want), e)
	}
}

func TestCanonOfAllShortTexts(t *testing.T) {
	probe.EachText([]string{"a ", "7 ", "{", "}", ";"}, 6, func(s string) { checkFollows(t, s) })
	probe.EachText([]string{"a", "b 1 2 ", "12 x", "c{a{", "{", "}", ";", " ", "#;\n", "B"}, 4, func(s string) { checkFollows(t, s) })
}

// grow writes a text of items by chance, with blanks and remarks.
func grow(r *rand.Rand, blocks int) string {
	s := ""
	gap := func() string { return []string{" ", "  ", "\n", "\t", "# x; {\n", " #\n "}[r.IntN(6)] }
	for range r.IntN(5) {
		s += gap() + "item" + strconv.Itoa(r.IntN(3))
		for range r.IntN(9) {
			s += gap() + []string{"a", "0", "999999999", name16, "x-", "31"}[r.IntN(6)]
		}
		if blocks < 6 && r.IntN(2) == 0 {
			s += gap() + "{" + grow(r, blocks+1) + gap() + "}"
		} else {
			s += gap() + ";"
		}
	}
	return s
}

// TestCanonByChance also writes texts that differ in their blanks and remarks alone.
func TestCanonByChance(t *testing.T) {
	r := rand.New(rand.NewPCG(10, 1))
	for range 500 {
		s := grow(r, 0)
		checkFollows(t, s)
		tokens, _, _ := lex.Cut(s)
		if other, e := lex.Join(tokens); e == api.OK {
			want, _ := slowCanon(s)
			checkCanon(t, other, want, 0, api.OK)
			checkCanon(t, "#\n"+strings.ReplaceAll(other, " ", "\n"), want, 0, api.OK)
		}
	}
}

// TestNothingIsWritten looks at what was handed in.
func TestNothingIsWritten(t *testing.T) {
	words := []api.Word{name("x"), num(1), num(2)}
	kids := []api.Node{line("c", words[:1]...), line("d"), line("e")}
	l := []api.Node{block(line("a", words[:2]...), kids[:2]...), line("b", words[:1]...)}
	checkPrint(t, l, "a x 1 {\n  c x;\n  d;\n}\nb x;\n", api.OK)
	if words[0] != name("x") || words[1] != num(1) || words[2] != num(2) || kids[2].Name != "e" || l[1].Name != "b" {
		t.Errorf("Print wrote into what it was handed: %v, %v, %v", words, kids, l)
	}
}
