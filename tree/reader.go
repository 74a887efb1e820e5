package tree

import "quarterday/api"

// item is a node that is read, the item in which it stands, and how many blocks stand in one another with it, if it is one.
type item struct {
	api.Node
	outer *item
	deep  int
}

// reader reads items token by token: text stands for the whole, now is the item that is open, and take takes what may stand there.
type reader struct {
	text, now *item
	take      func(t api.Token) api.Errno
}

func newReader() *reader {
	text := &item{}
	r := &reader{text: text, now: text}
	r.take = r.begin
	return r
}

// begin takes what may stand where an item begins, or a block ends.
func (r *reader) begin(t api.Token) api.Errno {
	switch {
	case t.Kind == api.NameK:
		r.now = &item{Node: api.Node{Name: t.S, At: t.At}, outer: r.now, deep: r.now.deep + 1}
		r.take = r.goOn
	case t.Kind == api.CloseK && r.now != r.text:
		r.end()
	default:
		return api.ErrForm
	}
	return api.OK
}

// goOn takes what may stand behind an item's name, and its words.
func (r *reader) goOn(t api.Token) api.Errno {
	switch t.Kind {
	case api.EndK:
		r.end()
	case api.OpenK:
		return r.open()
	case api.CloseK:
		return api.ErrForm
	default:
		return r.addWord(t)
	}
	return api.OK
}

// open makes the item a block.
func (r *reader) open() api.Errno {
	if r.now.deep > api.MaxDeep {
		return api.ErrDeep
	}
	r.now.Block = true
	r.take = r.begin
	return api.OK
}

// addWord adds a word to the item.
func (r *reader) addWord(t api.Token) api.Errno {
	if len(r.now.Words) == api.MaxWords {
		return api.ErrLong
	}
	r.now.Words = append(r.now.Words, wordOf(t))
	return api.OK
}

// end adds the item to the one in which it stands.
func (r *reader) end() {
	read := r.now
	r.now = read.outer
	r.now.Kids = append(r.now.Kids, read.Node)
	r.take = r.begin
}
