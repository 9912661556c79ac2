package print

import "brocade/api"

// list is the words of a text, in their order.
type list struct{ words []api.Token }

// say adds some words. Their kinds are left out: lex.Text asks only for TokDo.
func (l *list) say(texts ...string) {
	for _, text := range texts {
		l.words = append(l.words, api.Token{Text: text})
	}
}

// ask adds an operation, with its `!`.
func (l *list) ask(name string) {
	l.words = append(l.words, api.Token{Kind: api.TokDo, Text: name})
}

// items adds some items between two signs, a third one between each two items.
func (l *list) items(open, between, shut string, count int, item func(i int)) {
	l.say(open)
	for i := range count {
		if i > 0 {
			l.say(between)
		}
		item(i)
	}
	l.say(shut)
}
