package print

import (
	"strconv"

	"brocade/api"
)

// writer writes what can be written, word by word.
type writer struct{ list }

func (w *writer) program(p *api.Program) {
	for _, effect := range p.Effects {
		w.say("effect", effect.Name)
		w.items("{", ";", "}", len(effect.Ops), func(i int) { w.sig(effect.Ops[i]) })
	}
	for _, data := range p.Datas {
		w.say("data", data.Name)
		w.items("{", ";", "}", len(data.Cons), func(i int) { w.con(data.Cons[i]) })
	}
	w.expr(&p.Body)
}

func (w *writer) sig(op api.OpSig) {
	w.say(op.Name, ":")
	w.types(op.Arg)
	w.say("->")
	w.types(op.Res)
}

func (w *writer) con(con api.ConSig) {
	w.say(con.Name)
	w.types(con.Fields...)
}

func (w *writer) types(types ...api.Type) {
	for _, t := range types {
		switch t.Kind {
		case api.TypInt:
			w.say("int")
		case api.TypBool:
			w.say("bool")
		case api.TypUnit:
			w.say("unit")
		case api.TypData:
			w.say(t.Name)
		}
	}
}

// expr writes a term where the grammar has an expr.
func (w *writer) expr(t *api.Term) {
	switch t.Kind {
	case api.TermFun:
		w.say("fun", t.Name)
		w.behind(t.Kids, "->")
	case api.TermLet:
		w.say("let", t.Name)
		w.behind(t.Kids, "=", "in")
	case api.TermRec:
		w.say("rec", t.Name, t.Param)
		w.behind(t.Kids, "=", "in")
	case api.TermIf:
		w.behind(t.Kids, "if", "then", "else")
	case api.TermMatch:
		w.behind(t.Kids, "match")
		w.arms(t.Arms)
	case api.TermHandle:
		w.say("handle", t.Name)
		w.expr(&t.Kids[0])
		w.arms(t.Arms)
	case api.TermApp:
		w.called(&t.Kids[0])
		w.side(&t.Kids[1])
	case api.TermDo:
		w.ask(t.Name)
		w.side(&t.Kids[0])
	default:
		w.short(t)
	}
}

// short writes an operator's application, or an atom.
func (w *writer) short(t *api.Term) {
	switch {
	case atom(t):
		w.atom(t)
	case len(t.Kids) == 1:
		w.say(t.Name)
		w.side(&t.Kids[0])
	default:
		w.side(&t.Kids[0])
		w.say(t.Name)
		w.side(&t.Kids[1])
	}
}

// behind writes terms, each behind the word of its own.
func (w *writer) behind(terms []api.Term, words ...string) {
	for i, word := range words {
		w.say(word)
		w.expr(&terms[i])
	}
}

func (w *writer) arms(arms []api.Arm) {
	w.items("{", ";", "}", len(arms), func(i int) {
		w.say(arms[i].Name)
		w.say(arms[i].Vars...)
		w.say("->")
		w.expr(&arms[i].Body)
	})
}

// called writes a term on the left side of an application.
func (w *writer) called(t *api.Term) {
	if t.Kind == api.TermApp {
		w.expr(t)
	} else {
		w.side(t)
	}
}

// side writes a term where the grammar has something else than an expr.
func (w *writer) side(t *api.Term) {
	if atom(t) {
		w.atom(t)
		return
	}
	w.say("(")
	w.expr(t)
	w.say(")")
}

// atom tells whether a term that can be written is an atom.
func atom(t *api.Term) bool {
	switch t.Kind {
	case api.TermVar, api.TermInt, api.TermBool, api.TermUnit, api.TermCon:
		return true
	}
	return t.Kind == api.TermOp && len(t.Kids) == 0
}

func (w *writer) atom(t *api.Term) {
	switch t.Kind {
	case api.TermVar:
		w.say(t.Name)
	case api.TermInt:
		w.say(strconv.Itoa(t.N))
	case api.TermBool:
		w.say(strconv.FormatBool(t.N == 1))
	case api.TermUnit:
		w.say("(", ")")
	case api.TermOp:
		w.say(t.Name, "(", ")")
	case api.TermCon:
		w.say(t.Name)
		w.items("(", ",", ")", len(t.Kids), func(i int) { w.expr(&t.Kids[i]) })
	}
}
