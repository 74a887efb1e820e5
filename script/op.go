package script

import (
	"strconv"
	"strings"

	"quarterday/api"
	"quarterday/label"
	"quarterday/lex"
	"quarterday/stamp"
)

const blank = " "

// The kinds of words that stand behind an operation's name.
const (
	calWord    = "CAL"
	fromWord   = "FROM"
	toWord     = "TO"
	levelWord  = "LEVEL"
	unitWord   = "UNIT"
	yearWord   = "YEAR"
	numberWord = "NUMBER"
	amountWord = "AMOUNT"
)

// forms are, in the order of kinds from 1 on, what each operation is called, and which words stand behind that.
var forms = [...]string{
	"day CAL FROM LEVEL",
	"span CAL UNIT",
	"list CAL LEVEL YEAR",
	"comp CAL FROM NUMBER",
	"twin CAL UNIT NUMBER",
	"split CAL LEVEL AMOUNT FROM TO",
	"post FROM AMOUNT",
	"accrue FROM TO AMOUNT",
	"roll CAL LEVEL YEAR",
	"vary CAL LEVEL YEAR NUMBER",
}

// levelNames are, in the order of levels from 1 on, what each is called.
var levelNames = [...]string{"year", "half", "quarter", "period", "week"}

// Parse reads a line as an operation.
func Parse(line string) (api.Op, api.Errno) {
	name, _, _ := strings.Cut(line, blank)
	kind := kindOf(name)
	if kind == 0 {
		return api.Op{}, api.ErrForm
	}
	form := formOf(kind)
	// Of too many words all that are too many are told as one, for a line may be very long.
	words := strings.SplitN(line, blank, len(form)+1)
	if len(words) != len(form) {
		return api.Op{}, api.ErrForm
	}
	r, read := reader{api.Op{Kind: kind}}, readers()
	for i := 1; i < len(form); i++ {
		if e := read[form[i]](&r, words[i]); e != api.OK {
			return api.Op{}, e
		}
	}
	return r.Op, api.OK
}

// Print writes an operation.
func Print(o api.Op) (string, api.Errno) {
	if o.Kind < 1 || o.Kind > len(forms) {
		return "", api.ErrArg
	}
	words := formOf(o.Kind)
	for i := 1; i < len(words); i++ {
		words[i] = wordOf(o, words[i])
	}
	line := strings.Join(words, blank)
	// Whether the operation may be is told by reading the line: it is the only one that could say it.
	if said, e := Parse(line); e != api.OK || said != o {
		return "", api.ErrArg
	}
	return line, api.OK
}

// kindOf tells which kind of operation is called by a name, 0 if none is.
func kindOf(name string) int {
	for i := range forms {
		if formOf(i + 1)[0] == name {
			return i + 1
		}
	}
	return 0
}

// formOf tells what a kind of operation is called, and behind that its words' kinds.
func formOf(kind int) []string { return strings.Split(forms[kind-1], blank) }

// reader is an operation of which some words are read.
type reader struct{ api.Op }

// readers are what reads the words of each kind.
func readers() map[string]func(r *reader, word string) api.Errno {
	return map[string]func(r *reader, word string) api.Errno{
		calWord:    (*reader).cal,
		fromWord:   (*reader).from,
		toWord:     (*reader).to,
		levelWord:  (*reader).level,
		unitWord:   (*reader).unit,
		yearWord:   (*reader).year,
		numberWord: (*reader).number,
		amountWord: (*reader).amount,
	}
}

func (r *reader) cal(word string) api.Errno {
	if !lex.Name(word) {
		return api.ErrName
	}
	r.Cal = word
	return api.OK
}

func (r *reader) from(word string) (e api.Errno) {
	r.From, e = stamp.Parse(word)
	return e
}

func (r *reader) to(word string) (e api.Errno) {
	r.To, e = stamp.Parse(word)
	return e
}

func (r *reader) level(word string) (e api.Errno) {
	r.Level, e = label.Level(word)
	return e
}

func (r *reader) unit(word string) (e api.Errno) {
	r.Unit, e = label.Parse(word)
	return e
}

func (r *reader) year(word string) (e api.Errno) {
	r.Year, e = label.Small(word)
	return e
}

func (r *reader) number(word string) (e api.Errno) {
	r.K, e = label.Small(word)
	return e
}

func (r *reader) amount(word string) (e api.Errno) {
	r.N, e = label.Amount(word)
	return e
}

// wordOf writes the word of a kind that an operation has. Of what can't be written it is none that can be read.
func wordOf(o api.Op, kind string) string {
	switch kind {
	case calWord:
		return o.Cal
	case fromWord:
		return dayText(o.From)
	case toWord:
		return dayText(o.To)
	case levelWord:
		return levelName(o.Level)
	case unitWord:
		return unitText(o.Unit)
	case yearWord:
		return strconv.Itoa(o.Year)
	case numberWord:
		return strconv.Itoa(o.K)
	}
	return amountText(o.N)
}

func levelName(level int) string {
	if level < 1 || level > len(levelNames) {
		return ""
	}
	return levelNames[level-1]
}

func dayText(day int) string {
	s, _ := stamp.Print(day)
	return s
}

func unitText(u api.Unit) string {
	s, _ := label.Print(u)
	return s
}

func amountText(n int64) string { return strconv.FormatInt(n, 10) }
