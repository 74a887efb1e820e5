package lex

import (
	"regexp"
	"slices"
	"strconv"
	"strings"
	"testing"

	"quarterday/api"
	"quarterday/probe"
)

const (
	least = -1 << 63
	most  = 1<<63 - 1
	name7 = "abcdefg"
	// name16 is as long as a name may be.
	name16 = "abcdefghijklmnop"
)

func name(at int, s string) api.Token { return api.Token{Kind: api.NameK, At: at, S: s} }

func num(at, n int) api.Token { return api.Token{Kind: api.NumK, At: at, N: n} }

func opens(at int) api.Token { return api.Token{Kind: api.OpenK, At: at} }

func closes(at int) api.Token { return api.Token{Kind: api.CloseK, At: at} }

func ends(at int) api.Token { return api.Token{Kind: api.EndK, At: at} }

// short shows a text's beginning.
func short(s string) string {
	if len(s) > 60 {
		return strconv.Quote(s[:60]) + ".. of " + strconv.Itoa(len(s))
	}
	return strconv.Quote(s)
}

// few shows a list's first tokens.
func few(l []api.Token) []api.Token { return l[:min(len(l), 10)] }

// checkCut holds what Cut tells against all of what it should.
func checkCut(t *testing.T, s string, want []api.Token, wantAt int, wantE api.Errno) {
	t.Helper()
	l, at, e := Cut(s)
	if !slices.Equal(l, want) || at != wantAt || e != wantE {
		t.Errorf("Cut(%s): got %d tokens %v, %d, %d, want %d tokens, %d, %d", short(s), len(l), few(l), at, e, len(want), wantAt, wantE)
	}
}

func checkJoin(t *testing.T, l []api.Token, want string, wantE api.Errno) {
	t.Helper()
	if s, e := Join(l); s != want || e != wantE {
		t.Errorf("Join(%d tokens %v): got %s, %d, want %s, %d", len(l), few(l), short(s), e, short(want), wantE)
	}
}

// The forms of what stands in a text, by which it is cut apart from the program.
var (
	between = regexp.MustCompile(`^(?:[ \t\n]|#[^\n]*)*`)
	piece   = regexp.MustCompile(`^(?:[a-z][a-z0-9-]*|[0-9]+|[{};])`)
	nameIs  = regexp.MustCompile(`^[a-z][a-z0-9-]{0,15}$`)
	number  = regexp.MustCompile(`^(?:0|[1-9][0-9]{0,8})$`)
	joined  = regexp.MustCompile(`^[a-z-]`)
)

// slowCut cuts a text by forms.
func slowCut(s string) ([]api.Token, int, api.Errno) {
	if len(s) > 65536 {
		return nil, 0, api.ErrLong
	}
	var l []api.Token
	for at := 0; ; {
		at += len(between.FindString(s[at:]))
		if at == len(s) {
			return l, 0, api.OK
		}
		p := piece.FindString(s[at:])
		end := at + len(p)
		switch {
		case p == "":
			return nil, at, api.ErrForm
		case len(l) == 8192:
			return nil, at, api.ErrLong
		case p == "{":
			l = append(l, opens(at))
		case p == "}":
			l = append(l, closes(at))
		case p == ";":
			l = append(l, ends(at))
		case nameIs.MatchString(p):
			l = append(l, name(at, p))
		case p[0] >= 'a' || len(p) > 9:
			return nil, at, api.ErrLong
		case !number.MatchString(p):
			return nil, at, api.ErrForm
		case joined.MatchString(s[end:]):
			return nil, end, api.ErrForm
		default:
			n, _ := strconv.Atoi(p)
			l = append(l, num(at, n))
		}
		at = end
	}
}

// P8.1

func TestName(t *testing.T) {
	for _, s := range []string{"a", "m", "z", "a0", "a9", "a-", "x-9", "a-b-c", "a--", "z9-", "ab", "last", "calendar", "end0", "a0123456789-----", name16, strings.Repeat("z", 15), "a" + strings.Repeat("-", 15), "a" + strings.Repeat("9", 15)} {
		if !Name(s) {
			t.Errorf("Name(%q): got false", s)
		}
	}
	for _, s := range []string{
		"", "-", "0", "9", "-a", "9a", "0a", "A", "Z", "aB", "Ab", "abC", "a_b", "a.b", "a b", " a", "a ", "a\t", "\na", "a\n", "a;", "{", "}", ";", "#", "a#", "a{",
		"`", "a`", "a/", "a:", "a,", "a\x00", "\x00", "a\x00b", "a\r", "ä", "aä", "a\xff", "\xe1", "a\u00ad", "aа",
		name16 + "q", name16 + "-", name16 + "0", name16 + " ", strings.Repeat("a", 18), strings.Repeat("a", 32), strings.Repeat("a", 16+256), strings.Repeat("a", 65536),
	} {
		if Name(s) {
			t.Errorf("Name(%q): got true", s)
		}
	}
}

// TestNameByEachByte puts each byte at the beginning, the middle and the end.
func TestNameByEachByte(t *testing.T) {
	for c := range 256 {
		b := string([]byte{byte(c)})
		letter := strings.Contains("abcdefghijklmnopqrstuvwxyz", b)
		behind := letter || strings.Contains("0123456789-", b)
		for s, want := range map[string]bool{b: letter, b + "b": letter, "a" + b: behind, "a" + b + "c": behind, "abcdefghijklmno" + b: behind} {
			if Name(s) != want {
				t.Errorf("Name(%q): got %v", s, !want)
			}
		}
	}
}

// P8.2

func TestCut(t *testing.T) {
	for s, want := range map[string][]api.Token{
		"":                          nil,
		" ":                         nil,
		"\t":                        nil,
		"\n":                        nil,
		" \t\n\n\t  ":               nil,
		"#":                         nil,
		"# a 1 {":                   nil,
		"# B\x00\r\xff_-ä 007 1a":   nil,
		"#\n":                       nil,
		"##\n#":                     nil,
		" # \n\t# #\n ":             nil,
		"a 12;":                     {name(0, "a"), num(2, 12), ends(4)},
		"a":                         {name(0, "a")},
		"0":                         {num(0, 0)},
		"7":                         {num(0, 7)},
		"10":                        {num(0, 10)},
		"999999999":                 {num(0, 999999999)},
		"100000000":                 {num(0, 100000000)},
		"{":                         {opens(0)},
		"}":                         {closes(0)},
		";":                         {ends(0)},
		"{};":                       {opens(0), closes(1), ends(2)},
		"};{":                       {closes(0), ends(1), opens(2)},
		" a":                        {name(1, "a")},
		"a ":                        {name(0, "a")},
		"\ta\nb c":                  {name(1, "a"), name(3, "b"), name(5, "c")},
		"a1":                        {name(0, "a1")},
		"a-":                        {name(0, "a-")},
		"a-1-":                      {name(0, "a-1-")},
		"a007":                      {name(0, "a007")},
		"a;b":                       {name(0, "a"), ends(1), name(2, "b")},
		"a{b}c":                     {name(0, "a"), opens(1), name(2, "b"), closes(3), name(4, "c")},
		"1{0}2;0":                   {num(0, 1), opens(1), num(2, 0), closes(3), num(4, 2), ends(5), num(6, 0)},
		"0 0":                       {num(0, 0), num(2, 0)},
		"0\n0\t0":                   {num(0, 0), num(2, 0), num(4, 0)},
		"1 a":                       {num(0, 1), name(2, "a")},
		"a#b":                       {name(0, "a")},
		"12#b":                      {num(0, 12)},
		"0#0":                       {num(0, 0)},
		";#;\n;":                    {ends(0), ends(4)},
		"#a\nb":                     {name(3, "b")},
		"# a\n  12 # 13\n\t# x\n;":  {num(6, 12), ends(19)},
		name16:                      {name(0, name16)},
		name16 + " " + name16:       {name(0, name16), name(17, name16)},
		name16 + ";":                {name(0, name16), ends(16)},
		"calendar nrf { end nrf; }": {name(0, "calendar"), name(9, "nrf"), opens(13), name(15, "end"), name(19, "nrf"), ends(22), closes(24)},
	} {
		checkCut(t, s, want, 0, api.OK)
	}
}

// TestCutRefuses holds Cut against texts with one thing wrong, and with two: what stands ahead is told.
func TestCutRefuses(t *testing.T) {
	for _, x := range []struct {
		s  string
		at int
		e  api.Errno
	}{
		// bytes with which nothing begins
		{"B", 0, api.ErrForm}, {"a B", 2, api.ErrForm}, {"aB", 1, api.ErrForm}, {"-", 0, api.ErrForm}, {"-a", 0, api.ErrForm}, {"-1", 0, api.ErrForm}, {"a -", 2, api.ErrForm}, {";-", 1, api.ErrForm}, {"{-}", 1, api.ErrForm},
		{"a_b", 1, api.ErrForm}, {"a\r\n", 1, api.ErrForm}, {"\r", 0, api.ErrForm}, {"\x00", 0, api.ErrForm}, {"a\x00", 1, api.ErrForm}, {"\v", 0, api.ErrForm}, {"\f", 0, api.ErrForm}, {"ä", 0, api.ErrForm}, {"aä", 1, api.ErrForm}, {"a\u00a0b", 1, api.ErrForm}, {"\ufeffa", 0, api.ErrForm},
		{"1.5", 1, api.ErrForm}, {"1,", 1, api.ErrForm}, {"12A", 2, api.ErrForm}, {"12_", 2, api.ErrForm}, {"+1", 0, api.ErrForm}, {"#a\n.", 3, api.ErrForm}, {"# a\n\t\r", 5, api.ErrForm}, {"a#\xff\r_\n-9", 6, api.ErrForm},
		// names that are too long
		{name16 + "q", 0, api.ErrLong}, {"; " + name16 + "q", 2, api.ErrLong}, {name16 + "-", 0, api.ErrLong}, {" " + name16 + "0;", 1, api.ErrLong}, {"a " + strings.Repeat("z", 400), 2, api.ErrLong}, {"#\n" + name16 + "qB", 2, api.ErrLong}, {name16 + "B", 16, api.ErrForm},
		// numbers that are too long, or have noughts ahead, or are not by themselves
		{"1000000000", 0, api.ErrLong}, {" 1000000000", 1, api.ErrLong}, {"0000000000", 0, api.ErrLong}, {"{12345678901234567890", 1, api.ErrLong}, {"18446744073709551617", 0, api.ErrLong}, {";" + strings.Repeat("9", 400), 1, api.ErrLong}, {"1000000000a", 0, api.ErrLong}, {"0000000000-", 0, api.ErrLong}, {"1000000000.", 0, api.ErrLong},
		{"00", 0, api.ErrForm}, {"01", 0, api.ErrForm}, {"a 007", 2, api.ErrForm}, {"a;000000000", 2, api.ErrForm}, {"012345678", 0, api.ErrForm}, {"00a", 0, api.ErrForm}, {"; 01-", 2, api.ErrForm}, {"00.", 0, api.ErrForm},
		{"12a", 2, api.ErrForm}, {"12-", 2, api.ErrForm}, {"12-a", 2, api.ErrForm}, {"12-3", 2, api.ErrForm}, {"0a", 1, api.ErrForm}, {"0-", 1, api.ErrForm}, {"0-0", 1, api.ErrForm}, {"a 999999999z", 11, api.ErrForm}, {"999999999-", 9, api.ErrForm}, {"1" + name16 + "q", 1, api.ErrForm}, {"2024-02-30", 4, api.ErrForm}, {"1a B", 1, api.ErrForm},
		// two things wrong
		{"B 01", 0, api.ErrForm}, {"01 B", 0, api.ErrForm}, {"a 1a .", 3, api.ErrForm}, {". 1a", 0, api.ErrForm}, {name16 + "q 01", 0, api.ErrLong}, {"01 " + name16 + "q", 0, api.ErrForm}, {"1000000000 -", 0, api.ErrLong}, {"- 1000000000", 0, api.ErrForm}, {"#01\n1a\n01", 5, api.ErrForm},
	} {
		checkCut(t, x.s, nil, x.at, x.e)
	}
}

// TestCutByEachByte puts each byte alone, behind each kind of token, ahead of one, and in a remark.
func TestCutByEachByte(t *testing.T) {
	for c := range 256 {
		b := string([]byte{byte(c)})
		for _, ahead := range []string{"", " ", "a", "a ", "a-", "7", "0", "10 ", "{", "}", ";", "#\n"} {
			for _, behind := range []string{"", " ", "a", "b-;", "12", "\n{", "#"} {
				want, at, e := slowCut(ahead + b + behind)
				checkCut(t, ahead+b+behind, want, at, e)
			}
		}
		begins := strings.Contains("abcdefghijklmnopqrstuvwxyz0123456789{};", b)
		passed := strings.Contains(" \t\n#", b)
		if l, at, e := Cut(b); begins != (len(l) == 1) || at != 0 || (begins || passed) != (e == api.OK) || e != api.OK && e != api.ErrForm {
			t.Errorf("Cut(%q): got %v, %d, %d", b, l, at, e)
		}
		if c != '\n' {
			checkCut(t, "a #"+b+"\n;", []api.Token{name(0, "a"), ends(5)}, 0, api.OK)
			checkCut(t, "a#"+b, []api.Token{name(0, "a")}, 0, api.OK)
		}
	}
}

// TestCutByForms cuts all short texts of some pieces, also of those with which names and numbers grow too long.
func TestCutByForms(t *testing.T) {
	pieces := []string{"a", "z", name7, "0", "1", "9876", "-", "{", "}", ";", "#", " ", "\t", "\n", "B", "\r"}
	probe.EachText(pieces, 4, func(s string) {
		want, at, e := slowCut(s)
		checkCut(t, s, want, at, e)
	})
	probe.EachText([]string{"a", name7, "-", "0", "9876", " ", "#\n"}, 6, func(s string) {
		want, at, e := slowCut(s)
		checkCut(t, s, want, at, e)
	})
}

func TestCutOfLongTexts(t *testing.T) {
	full := 65536
	checkCut(t, strings.Repeat(" ", full), nil, 0, api.OK)
	checkCut(t, strings.Repeat(" ", full+1), nil, 0, api.ErrLong)
	checkCut(t, "#"+strings.Repeat("B", full-1), nil, 0, api.OK)
	checkCut(t, "#"+strings.Repeat("B", full), nil, 0, api.ErrLong)
	checkCut(t, strings.Repeat("\n", full-1)+"a", []api.Token{name(full-1, "a")}, 0, api.OK)
	checkCut(t, strings.Repeat("\n", full)+"a", nil, 0, api.ErrLong)
	checkCut(t, strings.Repeat("#\n", full/2-1)+"12", []api.Token{num(full-2, 12)}, 0, api.OK)
	checkCut(t, strings.Repeat("\t", full-1)+".", nil, full-1, api.ErrForm)
	checkCut(t, strings.Repeat("\t", full-2)+"1a", nil, full-1, api.ErrForm)
	checkCut(t, strings.Repeat("a", full), nil, 0, api.ErrLong)
	checkCut(t, ";"+strings.Repeat("1", full-1), nil, 1, api.ErrLong)
	// A text that is too long is told ahead of all that is wrong in it.
	checkCut(t, "."+strings.Repeat(" ", full), nil, 0, api.ErrLong)
	checkCut(t, "a 01"+strings.Repeat(" ", full), nil, 0, api.ErrLong)
	checkCut(t, strings.Repeat(";", full+1), nil, 0, api.ErrLong)
	checkCut(t, strings.Repeat(" ", 4*full), nil, 0, api.ErrLong)
}

// TestCutOfManyTokens cuts as many tokens as there may be, and what stands behind them.
func TestCutOfManyTokens(t *testing.T) {
	many := 8192
	signs := strings.Repeat(";", many)
	var full []api.Token
	for at := range many {
		full = append(full, ends(at))
	}
	for _, behind := range []string{"", " ", "\n\t ", "#", " # a B 01\n", "#;\n#"} {
		checkCut(t, signs+behind, full, 0, api.OK)
	}
	checkCut(t, signs[1:], full[:many-1], 0, api.OK)
	for _, x := range []struct {
		behind string
		at     int
		e      api.Errno
	}{
		{";", 0, api.ErrLong}, {"a", 0, api.ErrLong}, {"0", 0, api.ErrLong}, {"{", 0, api.ErrLong}, {"}", 0, api.ErrLong}, {" a", 1, api.ErrLong}, {" #\n\t1", 4, api.ErrLong}, {"a;", 0, api.ErrLong}, {";;", 0, api.ErrLong},
		// tokens that would be wrong, but are too many
		{" 01", 1, api.ErrLong}, {" 1a", 1, api.ErrLong}, {"\n1000000000", 1, api.ErrLong}, {" " + name16 + "q", 1, api.ErrLong},
		// a wrong byte in its place, and behind it
		{".", 0, api.ErrForm}, {" .", 1, api.ErrForm}, {"-1", 0, api.ErrForm}, {"#;\nB", 3, api.ErrForm}, {" a.", 1, api.ErrLong}, {" ; .", 1, api.ErrLong}, {" .;", 1, api.ErrForm},
	} {
		checkCut(t, signs+x.behind, nil, many+x.at, x.e)
	}
	// a wrong byte, name or number ahead of it
	checkCut(t, signs[1:]+".;;", nil, many-1, api.ErrForm)
	checkCut(t, "."+signs+";", nil, 0, api.ErrForm)
	checkCut(t, signs[1:]+"1a;", nil, many, api.ErrForm)
	checkCut(t, signs[1:]+"01;", nil, many-1, api.ErrForm)
	checkCut(t, signs[1:]+"1.;", nil, many, api.ErrForm)
	checkCut(t, signs[1:]+name16+"q;", nil, many-1, api.ErrLong)
	checkCut(t, signs[1:]+"a;", nil, many, api.ErrLong)
	// tokens of several bytes
	words := strings.Repeat("ab 12 ", many/2)
	if l, at, e := Cut(words); len(l) != many || at != 0 || e != api.OK || l[many-1] != num(3*many-3, 12) {
		t.Errorf("got %d tokens, %d, %d", len(l), at, e)
	}
	checkCut(t, words+"# \n ab", nil, 3*many+4, api.ErrLong)
	checkCut(t, strings.Repeat(" ;", many)+strings.Repeat(" ", 3*many)+"{", nil, 5*many, api.ErrLong)
}

// P8.3

func TestJoin(t *testing.T) {
	for _, x := range []struct {
		l []api.Token
		s string
	}{
		{nil, ""},
		{[]api.Token{}, ""},
		{[]api.Token{name(0, "a")}, "a"},
		{[]api.Token{num(0, 0)}, "0"},
		{[]api.Token{num(0, 999999999)}, "999999999"},
		{[]api.Token{opens(0)}, "{"},
		{[]api.Token{closes(0)}, "}"},
		{[]api.Token{ends(0)}, ";"},
		{[]api.Token{name(0, name16)}, name16},
		{[]api.Token{name(0, "x-9-"), num(0, 10)}, "x-9- 10"},
		{[]api.Token{ends(0), ends(0)}, "; ;"},
		{[]api.Token{closes(0), opens(0), ends(0), num(0, 7), num(0, 8), name(0, "a"), name(0, "b"), closes(0)}, "} { ; 7 8 a b }"},
		{[]api.Token{name(0, "a"), num(0, 1), opens(0), name(0, "b"), ends(0), closes(0)}, "a 1 { b ; }"},
		// places are not looked at
		{[]api.Token{name(7, "a"), num(7, 1), opens(-1), closes(least), ends(most)}, "a 1 { } ;"},
		{[]api.Token{ends(2), name(65536, "z"), num(1, 2)}, "; z 2"},
	} {
		checkJoin(t, x.l, x.s, api.OK)
	}
}

// noTokens are what Cut tells of no text.
var noTokens = []api.Token{
	{}, {At: 3}, {S: "a"}, {N: 1}, {Kind: 6}, {Kind: -1}, {Kind: 7, S: "a"}, {Kind: 0, S: ";"}, {Kind: least}, {Kind: most}, {Kind: 1 + 1<<32, S: "a"}, {Kind: 5 + 1<<32}, {Kind: ';'}, {Kind: '{'},
	name(0, ""), name(0, "A"), name(0, "aB"), name(0, "-a"), name(0, "9"), name(0, "12"), name(0, "a b"), name(0, "a "), name(0, " a"), name(0, "a;"), name(0, ";"), name(0, "{"), name(0, "a#"), name(0, "#"), name(0, "a\n"), name(0, "a\x00"), name(0, "ä"), name(0, name16+"q"), name(0, strings.Repeat("a", 70000)),
	{Kind: api.NameK, S: "a", N: 1}, {Kind: api.NameK, S: "a", N: -1}, {Kind: api.NameK, N: 1}, {Kind: api.NameK, S: "a", N: least},
	num(0, -1), num(0, 1000000000), num(0, 1000000001), num(0, least), num(0, most), num(0, 1<<32), num(0, -999999999), num(0, -1<<32),
	{Kind: api.NumK, S: "a"}, {Kind: api.NumK, N: 1, S: "1"}, {Kind: api.NumK, S: "0"}, {Kind: api.NumK, N: -1, S: "a"}, {Kind: api.NumK, N: 12, S: " "},
	{Kind: api.OpenK, S: "{"}, {Kind: api.CloseK, S: "}"}, {Kind: api.EndK, S: ";"}, {Kind: api.OpenK, S: "a"}, {Kind: api.OpenK, N: 1}, {Kind: api.CloseK, N: 1}, {Kind: api.EndK, N: -1}, {Kind: api.EndK, N: most}, {Kind: api.CloseK, S: "a", N: 1},
}

func TestJoinRefuses(t *testing.T) {
	for _, x := range noTokens {
		checkJoin(t, []api.Token{x}, "", api.ErrArg)
		checkJoin(t, []api.Token{x, name(0, "a")}, "", api.ErrArg)
		checkJoin(t, []api.Token{name(0, "a"), num(2, 1), x}, "", api.ErrArg)
		checkJoin(t, []api.Token{opens(0), x, ends(1)}, "", api.ErrArg)
		x.At = -5
		checkJoin(t, []api.Token{x}, "", api.ErrArg)
	}
}

// named are tokens whose texts are of these lengths: so many of one, then so many of another one.
func named(many, length, more, longer int) []api.Token {
	l := slices.Repeat([]api.Token{name(0, name16[:length])}, many)
	return append(l, slices.Repeat([]api.Token{name(0, name16[:longer])}, more)...)
}

// TestJoinLengths joins as many tokens, and as long ones, as there may be, and one more, and a byte more.
func TestJoinLengths(t *testing.T) {
	signs := slices.Repeat([]api.Token{ends(0)}, 8192)
	checkJoin(t, signs, strings.Repeat("; ", 8191)+";", api.OK)
	checkJoin(t, append(signs, ends(0)), "", api.ErrArg)
	checkJoin(t, slices.Repeat(signs, 9), "", api.ErrArg)
	checkJoin(t, slices.Repeat([]api.Token{num(0, 1)}, 8192), strings.Repeat("1 ", 8191)+"1", api.OK)
	for _, x := range []struct {
		l    []api.Token
		want int
	}{
		{named(8192, 7, 0, 0), 65535}, {named(8191, 7, 1, 8), 65536}, {named(8190, 7, 2, 8), 65537}, {named(8192, 8, 0, 0), 73727}, {named(8192, 16, 0, 0), 139263},
		{named(3855, 16, 1, 1), 65536}, {named(3855, 16, 1, 2), 65537}, {append(named(3854, 16, 0, 0), num(0, 99999999), num(0, 12345678)), 65535}, {append(named(3854, 16, 0, 0), num(0, 99999999), num(0, 123456789)), 65536}, {append(named(3854, 16, 0, 0), num(0, 100000000), num(0, 123456789)), 65537},
		{slices.Repeat([]api.Token{num(0, 999999999)}, 6554), 65539}, {slices.Repeat([]api.Token{num(0, 999999999)}, 6553), 65529},
	} {
		s, e := Join(x.l)
		if x.want <= 65536 && (len(s) != x.want || e != api.OK) || x.want > 65536 && (s != "" || e != api.ErrLong) {
			t.Errorf("%d tokens with %d bytes: got %d bytes, %d", len(x.l), x.want, len(s), e)
		}
	}
	// Wrong tokens, and too many of them, are told ahead of too long a text.
	long := named(8190, 16, 0, 0)
	for _, x := range noTokens {
		checkJoin(t, append(slices.Clone(long), x), "", api.ErrArg)
		checkJoin(t, append([]api.Token{x}, long...), "", api.ErrArg)
	}
	checkJoin(t, named(8193, 16, 0, 0), "", api.ErrArg)
	checkJoin(t, append(named(8192, 16, 0, 0), api.Token{}), "", api.ErrArg)
}

// P8.4

// TestCutOfJoin joins all short rows of tokens, and what Cut tells of all short texts, and cuts them again.
func TestCutOfJoin(t *testing.T) {
	tokens := []api.Token{name(0, "a"), name(3, "b-"), name(0, name16), num(0, 0), num(9, 10), num(0, 999999999), opens(0), closes(-2), ends(0)}
	var rows func(l []api.Token, many int)
	rows = func(l []api.Token, many int) {
		checkSame(t, l)
		for _, x := range tokens {
			if many > 0 {
				rows(append(slices.Clone(l), x), many-1)
			}
		}
	}
	rows(nil, 4)
	probe.EachText([]string{"a", "0", "12", "-", "{", "}", ";", " ", "#x\n"}, 4, func(s string) {
		if l, _, e := Cut(s); e == api.OK {
			checkSame(t, l)
		}
	})
	checkSame(t, slices.Repeat([]api.Token{closes(0)}, 8192))
	checkSame(t, named(8191, 7, 1, 8))
	checkSame(t, named(3855, 16, 1, 1))
}

// checkSame holds tokens against those that are cut when they are joined.
func checkSame(t *testing.T, l []api.Token) {
	t.Helper()
	s, e := Join(l)
	back, at, e2 := Cut(s)
	if len(back) != len(l) || e != api.OK || at != 0 || e2 != api.OK {
		t.Fatalf("%v: got %d, %d tokens of %s, %d, %d", few(l), e, len(back), short(s), at, e2)
	}
	place := 0
	texts := strings.Split(s, " ")
	for i, x := range l {
		if x.At = place; back[i] != x {
			t.Fatalf("%v: got %v at %d of %s", few(l), back[i], i, short(s))
		}
		place += len(texts[i]) + 1
	}
}

// TestAnswersAreNew writes into what was told, and into what was handed in.
func TestAnswersAreNew(t *testing.T) {
	want := []api.Token{name(0, "a"), num(2, 1), ends(3)}
	l, _, _ := Cut("a 1;")
	l[0], l[1] = opens(7), name(8, "b")
	checkCut(t, "a 1;", want, 0, api.OK)
	handed := slices.Clone(want)
	s, _ := Join(handed)
	if !slices.Equal(handed, want) {
		t.Errorf("Join wrote into what it was handed: %v", handed)
	}
	handed[0] = closes(0)
	if s != "a 1 ;" {
		t.Errorf("got %q", s)
	}
}
