package parse

import "brocade/api"

// parser reads a program from a row of words. Once it has failed there are no more words for it,
// so that whatever it is still about comes to its end at once.
type parser struct {
	row
	within int // how many exprs are being read, one within the other
	at     int // where it failed
	err    api.Errno
}

// fail keeps the first fault, which is of the next word, and where that begins.
func (p *parser) fail(err api.Errno) {
	if p.err == api.OK {
		p.at, p.err = p.where(), err
		p.drop()
	}
}

// must takes some keywords and signs, one behind the other.
func (p *parser) must(texts ...string) {
	for _, text := range texts {
		if !p.takeIf(text) {
			p.fail(api.ErrSyntax)
		}
	}
}

// name takes a name of one of some kinds.
func (p *parser) name(kinds ...int) string {
	if !p.isOf(kinds...) {
		p.fail(api.ErrSyntax)
		return ""
	}
	return p.take().Text
}

func (p *parser) small() string { return p.name(api.TokSmall) }

func (p *parser) large() string { return p.name(api.TokLarge) }

// list reads any number of items between two signs, a third one between each two items.
func (p *parser) list(open, between, shut string, item func()) {
	p.must(open)
	if !p.is(shut) {
		item()
		for p.takeIf(between) {
			item()
		}
	}
	p.must(shut)
}
