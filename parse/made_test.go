package parse_test

import (
	"slices"
	"strconv"
	"strings"
	"testing"

	"brocade/api"
	"brocade/lex"
)

// dice are numbers that are the same in each run.
type dice uint32

func (d *dice) under(n int) int {
	*d = *d*1664525 + 1013904223
	return int(uint32(*d)>>8) % n
}

// pen writes programs that it makes up, and keeps which terms it has written.
type pen struct {
	dice
	text strings.Builder
	bare bool // the word ahead is a constructor without brackets behind it
}

func (p *pen) pick(texts ...string) string { return texts[p.under(len(texts))] }

// word writes a word behind some blanks, and tells where it begins.
func (p *pen) word(text string) int {
	if p.bare && text == "(" {
		p.bare = false
		p.words("(", ")")
	}
	p.bare = false
	written := p.text.String()
	apart := "(){},;"
	if written != "" && !strings.Contains(apart, text) && !strings.Contains(apart, written[len(written)-1:]) {
		p.text.WriteString(p.pick(" ", "\n", "\t\r", "# a ( note\n"))
	}
	p.text.WriteString(p.pick("", "", "", " ", "\n", "# $\n#\n"))
	at := p.text.Len()
	p.text.WriteString(text)
	return at
}

func (p *pen) words(texts ...string) {
	for _, text := range texts {
		p.word(text)
	}
}

func (p *pen) small() string { return p.name("x", "y", "f", "_", "in1", "iff") }

func (p *pen) large() string { return p.name("A", "B", "Cons", "E_1") }

func (p *pen) name(texts ...string) string {
	name := p.pick(texts...)
	p.word(name)
	return name
}

// The levels of the grammar, from the weakest on.
const (
	levelExpr = iota
	levelAssign
	levelCmp
	levelSum
	levelProd
	levelUnary
	levelApp
	levelAtom
)

// term writes a term where the grammar has one of a level: in brackets, if the term is of a weaker one.
func (p *pen) term(level, size int) api.Term {
	own := levelAtom
	if size > 0 {
		own = p.under(levelAtom + 1)
	}
	if own >= level && p.under(8) > 0 {
		return p.termOf(own, size-1)
	}
	p.word("(")
	t := p.termOf(own, size-1)
	p.word(")")
	return t
}

func (p *pen) termOf(level, size int) api.Term {
	switch level {
	case levelAssign:
		return p.sides(levelCmp, levelCmp, size, ":=")
	case levelCmp:
		return p.sides(levelSum, levelSum, size, "<", "=")
	case levelSum:
		return p.sides(levelSum, levelProd, size, "+", "-")
	case levelProd:
		return p.sides(levelProd, levelUnary, size, "*", "/")
	case levelUnary:
		return p.unary(size)
	case levelApp:
		fun := p.term(levelApp, size)
		return api.Term{Kind: api.TermApp, At: fun.At, Kids: []api.Term{fun, p.term(levelAtom, size)}}
	case levelAtom:
		return p.atom(size)
	}
	return p.keyword(size)
}

func (p *pen) sides(left, right, size int, signs ...string) api.Term {
	first := p.term(left, size)
	sign := p.name(signs...)
	return api.Term{Kind: api.TermOp, At: first.At, Name: sign, Kids: []api.Term{first, p.term(right, size)}}
}

func (p *pen) unary(size int) api.Term {
	text := p.pick("print", "ref", "!", "get!", "put!")
	t := api.Term{Kind: api.TermOp, At: p.word(text), Name: text}
	if len(text) == 4 {
		t.Kind, t.Name = api.TermDo, text[:3]
	}
	t.Kids = []api.Term{p.term(levelUnary, size)}
	return t
}

func (p *pen) atom(size int) api.Term {
	switch p.under(6) {
	case 0:
		n := p.under(1000)
		return api.Term{Kind: api.TermInt, At: p.word(strconv.Itoa(n)), N: n}
	case 1:
		n := p.under(2)
		return api.Term{Kind: api.TermBool, At: p.word([]string{"false", "true"}[n]), N: n}
	case 2:
		at := p.word("(")
		p.word(")")
		return api.Term{Kind: api.TermUnit, At: at}
	case 3:
		at := p.word("read")
		p.words("(", ")")
		return api.Term{Kind: api.TermOp, At: at, Name: "read"}
	case 4:
		return p.con(size)
	}
	name := p.pick("x", "y", "f", "_")
	return api.Term{Kind: api.TermVar, At: p.word(name), Name: name}
}

func (p *pen) con(size int) api.Term {
	name := p.pick("A", "Bee")
	t := api.Term{Kind: api.TermCon, At: p.word(name), Name: name}
	if size < 0 || p.under(3) == 0 {
		p.bare = true
		return t
	}
	p.word("(")
	for i := range p.under(4) {
		if i > 0 {
			p.word(",")
		}
		t.Kids = append(t.Kids, p.term(levelExpr, size))
	}
	p.word(")")
	return t
}

// expr writes a word, and a term behind it.
func (p *pen) expr(ahead string, size int) api.Term {
	p.word(ahead)
	return p.term(levelExpr, size)
}

func (p *pen) keyword(size int) api.Term {
	text := p.pick("fun", "let", "rec", "if", "match", "handle")
	t := api.Term{At: p.word(text)}
	switch text {
	case "fun":
		t.Kind, t.Name = api.TermFun, p.small()
		t.Kids = []api.Term{p.expr("->", size)}
	case "let":
		t.Kind, t.Name = api.TermLet, p.small()
		t.Kids = []api.Term{p.expr("=", size), p.expr("in", size)}
	case "rec":
		t.Kind, t.Name, t.Param = api.TermRec, p.small(), p.small()
		t.Kids = []api.Term{p.expr("=", size), p.expr("in", size)}
	case "if":
		t.Kind = api.TermIf
		t.Kids = []api.Term{p.term(levelExpr, size), p.expr("then", size), p.expr("else", size)}
	case "match":
		t.Kind = api.TermMatch
		t.Kids = []api.Term{p.term(levelExpr, size)}
		t.Arms = p.ways(size)
	case "handle":
		t.Kind, t.Name = api.TermHandle, p.large()
		t.Kids = []api.Term{p.term(levelExpr, size)}
		t.Arms = p.clauses(size)
	}
	return t
}

func (p *pen) ways(size int) []api.Arm {
	var arms []api.Arm
	p.word("{")
	for i := range p.under(4) {
		if i > 0 {
			p.word(";")
		}
		arm := api.Arm{Name: p.large()}
		for range p.under(3) {
			arm.Vars = append(arm.Vars, p.small())
		}
		arm.Body = p.expr("->", size)
		arms = append(arms, arm)
	}
	p.word("}")
	return arms
}

func (p *pen) clauses(size int) []api.Arm {
	p.words("{", "return")
	arms := []api.Arm{{Name: "return", Vars: []string{p.small()}}}
	arms[0].Body = p.expr("->", size)
	for range p.under(3) {
		p.word(";")
		arm := api.Arm{Name: p.small(), Vars: []string{p.small(), p.small()}}
		arm.Body = p.expr("->", size)
		arms = append(arms, arm)
	}
	p.word("}")
	return arms
}

func (p *pen) oneType() api.Type {
	switch kind := api.TypInt + p.under(4); kind {
	case api.TypData:
		return api.Type{Kind: kind, Name: p.large()}
	default:
		p.word([]string{"int", "bool", "unit"}[kind-api.TypInt])
		return api.Type{Kind: kind}
	}
}

func (p *pen) effect() api.Effect {
	p.word("effect")
	effect := api.Effect{Name: p.large()}
	p.word("{")
	for i := range p.under(3) {
		if i > 0 {
			p.word(";")
		}
		op := api.OpSig{Name: p.small()}
		p.word(":")
		op.Arg = p.oneType()
		p.word("->")
		op.Res = p.oneType()
		effect.Ops = append(effect.Ops, op)
	}
	p.word("}")
	return effect
}

func (p *pen) data() api.Data {
	p.word("data")
	data := api.Data{Name: p.large()}
	p.word("{")
	for i := range p.under(3) {
		if i > 0 {
			p.word(";")
		}
		con := api.ConSig{Name: p.large()}
		for range p.under(4) {
			con.Fields = append(con.Fields, p.oneType())
		}
		data.Cons = append(data.Cons, con)
	}
	p.word("}")
	return data
}

func (p *pen) program() api.Program {
	var program api.Program
	for range p.under(4) {
		if p.under(2) == 0 {
			program.Effects = append(program.Effects, p.effect())
		} else {
			program.Datas = append(program.Datas, p.data())
		}
	}
	program.Body = p.term(levelExpr, 1+p.under(5))
	p.text.WriteString(p.pick("", " ", "# the end", "\n"))
	return program
}

// TestMadePrograms writes programs, and holds what is read against what was written.
func TestMadePrograms(t *testing.T) {
	luck := dice(1)
	for range 3000 {
		p := pen{dice: luck}
		want := showAll(p.program())
		luck = p.dice
		wantProgram(t, p.text.String(), want)
		if t.Failed() {
			t.Fatalf("%s", p.text.String())
		}
	}
}

// TestSpoiltPrograms takes a word out of a program, or puts one in, and holds where that shows against the grammar.
func TestSpoiltPrograms(t *testing.T) {
	program := readGrammar()
	luck := dice(2)
	for range 3000 {
		p := pen{dice: luck}
		p.program()
		luck = p.dice
		words, _, _ := lex.Lex([]byte(p.text.String()))
		if len(words) > 60 {
			continue
		}
		place := luck.under(len(words))
		switch luck.under(3) {
		case 0:
			words = slices.Delete(words, place, place+1)
		case 1:
			words = slices.Insert(words, place, words[luck.under(len(words))])
		case 2:
			words[place] = words[luck.under(len(words))]
		}
		holdAgainstSlow(t, program, lex.Text(words))
	}
}
