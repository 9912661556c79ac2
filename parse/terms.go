package parse

import (
	"slices"

	"brocade/api"
)

// expr counts how many exprs it stands within; that bounds how deep the parser calls itself, too.
func (p *parser) expr() api.Term {
	if p.within > api.MaxDeep {
		p.fail(api.ErrLimit)
		return api.Term{}
	}
	p.within++
	t := p.exprHere()
	p.within--
	return t
}

// exprHere takes the words in the order in which its literals name them: Go calls from left to right.
func (p *parser) exprHere() api.Term {
	at := p.where()
	switch {
	case p.takeIf("fun"):
		return api.Term{Kind: api.TermFun, At: at, Name: p.small(), Kids: p.behind("->")}
	case p.takeIf("let"):
		return api.Term{Kind: api.TermLet, At: at, Name: p.small(), Kids: p.behind("=", "in")}
	case p.takeIf("rec"):
		return api.Term{Kind: api.TermRec, At: at, Name: p.small(), Param: p.small(), Kids: p.behind("=", "in")}
	case p.is("if"):
		return api.Term{Kind: api.TermIf, At: at, Kids: p.behind("if", "then", "else")}
	case p.is("match"):
		return api.Term{Kind: api.TermMatch, At: at, Kids: p.behind("match"), Arms: p.ways()}
	case p.takeIf("handle"):
		return api.Term{Kind: api.TermHandle, At: at, Name: p.large(), Kids: []api.Term{p.expr()}, Arms: p.clauses()}
	}
	return p.assign()
}

// behind reads an expr behind each of some keywords and signs.
func (p *parser) behind(texts ...string) []api.Term {
	var out []api.Term
	for _, text := range texts {
		p.must(text)
		out = append(out, p.expr())
	}
	return out
}

func (p *parser) ways() []api.Arm {
	var ways []api.Arm
	p.list("{", ";", "}", func() { ways = append(ways, p.way()) })
	return ways
}

func (p *parser) way() api.Arm {
	way := api.Arm{Name: p.large()}
	for p.isOf(api.TokSmall) {
		way.Vars = append(way.Vars, p.take().Text)
	}
	return p.does(way)
}

func (p *parser) clauses() []api.Arm {
	p.must("{", "return")
	clauses := []api.Arm{p.does(api.Arm{Name: "return", Vars: []string{p.small()}})}
	for p.takeIf(";") {
		clauses = append(clauses, p.does(api.Arm{Name: p.small(), Vars: []string{p.small(), p.small()}}))
	}
	p.must("}")
	return clauses
}

// does reads what an arm does.
func (p *parser) does(arm api.Arm) api.Arm {
	p.must("->")
	arm.Body = p.expr()
	return arm
}

func (p *parser) assign() api.Term { return p.once(p.cmp, ":=") }

func (p *parser) cmp() api.Term { return p.once(p.sum, "<", "=") }

func (p *parser) sum() api.Term { return p.often(p.prod, "+", "-") }

func (p *parser) prod() api.Term { return p.often(p.unary, "*", "/") }

// once reads one side, or two with one of some signs between them.
func (p *parser) once(side func() api.Term, signs ...string) api.Term {
	left := side()
	if p.is(signs...) {
		left = p.both(left, side)
	}
	return left
}

// often reads any number of sides, from the left, with one of some signs between each two.
func (p *parser) often(side func() api.Term, signs ...string) api.Term {
	left := side()
	for p.is(signs...) {
		left = p.both(left, side)
	}
	return left
}

// both reads a sign and the side that is right of it.
func (p *parser) both(left api.Term, side func() api.Term) api.Term {
	sign := p.take().Text
	return api.Term{Kind: api.TermOp, At: left.At, Name: sign, Kids: []api.Term{left, side()}}
}

// unary keeps the words ahead till it has what stands behind them: the last one is innermost.
func (p *parser) unary() api.Term {
	var ahead []api.Token
	for p.is("print", "ref", "!") || p.isOf(api.TokDo) {
		ahead = append(ahead, p.take())
	}
	t := p.app()
	for _, word := range slices.Backward(ahead) {
		kind := api.TermOp
		if word.Kind == api.TokDo {
			kind = api.TermDo
		}
		t = api.Term{Kind: kind, At: word.At, Name: word.Text, Kids: []api.Term{t}}
	}
	return t
}

func (p *parser) app() api.Term {
	fun, ok := p.atom()
	if !ok {
		p.fail(api.ErrSyntax)
		return api.Term{}
	}
	for {
		arg, ok := p.atom()
		if !ok {
			return fun
		}
		fun = api.Term{Kind: api.TermApp, At: fun.At, Kids: []api.Term{fun, arg}}
	}
}

// atom is the atom that begins with the next word, if one does.
func (p *parser) atom() (api.Term, bool) {
	at := p.where()
	switch {
	case p.isOf(api.TokInt):
		return api.Term{Kind: api.TermInt, At: at, N: p.take().N}, true
	case p.takeIf("true"):
		return api.Term{Kind: api.TermBool, At: at, N: 1}, true
	case p.takeIf("false"):
		return api.Term{Kind: api.TermBool, At: at}, true
	case p.isOf(api.TokSmall):
		return api.Term{Kind: api.TermVar, At: at, Name: p.take().Text}, true
	case p.isOf(api.TokLarge):
		return api.Term{Kind: api.TermCon, At: at, Name: p.take().Text, Kids: p.fields()}, true
	case p.takeIf("read"):
		p.must("(", ")")
		return api.Term{Kind: api.TermOp, At: at, Name: "read"}, true
	case p.takeIf("("):
		return p.bracketed(at), true
	}
	return api.Term{}, false
}

// bracketed is what stands behind a bracket that begins at a byte.
func (p *parser) bracketed(at int) api.Term {
	if p.takeIf(")") {
		return api.Term{Kind: api.TermUnit, At: at}
	}
	t := p.expr()
	p.must(")")
	return t
}

func (p *parser) fields() []api.Term {
	var fields []api.Term
	if p.is("(") {
		p.list("(", ",", ")", func() { fields = append(fields, p.expr()) })
	}
	return fields
}
