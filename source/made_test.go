package source_test

import (
	"fmt"
	"testing"

	"brocade/api"
	"brocade/infer"
	"brocade/parse"
	"brocade/print"
)

// dice are numbers that are the same in each run.
type dice uint32

func (d *dice) under(n int) int {
	*d = *d*1664525 + 1013904223
	return int(uint32(*d)>>8) % n
}

func pick[A any](d *dice, of []A) A { return of[d.under(len(of))] }

// typ is what a made-up term is of; a function, and a resumption, takes and answers something, a reference holds it.
type typ struct {
	kind       int
	name       string
	takes, ans *typ
}

func (a *typ) same(b *typ) bool {
	if a == nil || b == nil {
		return a == b
	}
	return a.kind == b.kind && a.name == b.name && a.takes.same(b.takes) && a.ans.same(b.ans)
}

func data(name string) *typ { return &typ{kind: api.TypData, name: name} }

func base(kind int) *typ { return &typ{kind: kind} }

func arrow(takes, ans *typ) *typ { return &typ{api.TypFun, "", takes, ans} }

// entry is a name that there is.
type entry struct {
	name string
	of   *typ
}

// maker makes up programs. They have types, as far as no operation is asked where nobody handles it.
type maker struct {
	dice
	declared api.Program
	around   map[string]int // how many handlers of an effect are around
}

const declarations = `
effect E { e : unit -> int; f : int -> bool; tell : L -> unit }
effect F { g : int -> int }
data L { Nil; Cons int L }
data P { Pair int bool; One L }
`

func newMaker(seed dice) *maker {
	p, _, err := parse.Parse([]byte(declarations + "()"))
	if err != api.OK {
		panic(err)
	}
	return &maker{seed, p, map[string]int{}}
}

// program makes up one, so many terms deep.
func (m *maker) program(size int) api.Program {
	p, of := m.declared, m.typ(1)
	cells := []entry{{"r", &typ{kind: api.TypRef, takes: base(api.TypInt)}}, {"s", &typ{kind: api.TypRef, takes: base(api.TypInt)}}}[:m.under(3)]
	if m.under(2) == 0 {
		p.Body = m.handler(cells, of, size)
	} else {
		p.Body = m.term(cells, of, size)
	}
	for _, cell := range cells {
		p.Body = let(cell.name, term(api.TermOp, "ref", whole(m.under(5))), p.Body)
	}
	return p
}

func (m *maker) typ(size int) *typ {
	switch m.under(9) {
	case 0, 1, 2:
		return base(api.TypInt)
	case 3:
		return base(api.TypBool)
	case 4:
		return base(api.TypUnit)
	case 5:
		return data(pick(&m.dice, []string{"L", "P"}))
	case 6:
		if size > 0 {
			return &typ{kind: api.TypRef, takes: m.typ(size - 1)}
		}
	case 7:
		if size > 0 {
			return arrow(m.typ(size-1), m.typ(size-1))
		}
	}
	return base(api.TypInt)
}

func (m *maker) name() string { return pick(&m.dice, []string{"x", "y", "z", "h"}) }

// term makes up a term.
func (m *maker) term(e []entry, of *typ, size int) api.Term {
	if size <= 0 {
		return m.leaf(e, of)
	}
	if ask, found := m.ask(e, of, size); found {
		return ask
	}
	if cell, found := m.known(e, of.same); found && of.kind == api.TypRef && m.under(4) > 0 {
		return variable(cell.name)
	}
	switch m.under(14) {
	case 0:
		is, name := m.typ(2), m.name()
		return let(name, m.term(e, is, size-1), m.term(append(e[:len(e):len(e)], entry{name, is}), of, size-1))
	case 1:
		return term(api.TermIf, "", m.term(e, base(api.TypBool), size-1), m.term(e, of, size-1), m.term(e, of, size-1))
	case 2:
		return m.match(e, of, size)
	case 3, 4, 5:
		return m.handler(e, of, size)
	case 6:
		takes := m.typ(1)
		return apply(m.term(e, arrow(takes, of), size-1), m.term(e, takes, size-1))
	case 7:
		return term(api.TermOp, "!", m.term(e, &typ{kind: api.TypRef, takes: of}, size-1))
	case 8:
		return m.loop(e, of, size)
	case 9, 10:
		if call, found := m.call(e, of, size); found {
			return call
		}
	}
	return m.byType(e, of, size)
}

// terms makes up terms of some types.
func (m *maker) terms(e []entry, size int, of ...*typ) []api.Term {
	var out []api.Term
	for _, one := range of {
		out = append(out, m.term(e, one, size))
	}
	return out
}

// ask makes up a term that asks an operation: now and then, if there is a handler around, and seldom, if there is none.
func (m *maker) ask(e []entry, of *typ, size int) (api.Term, bool) {
	op, takes := "", base(api.TypInt)
	switch {
	case of.kind == api.TypInt && m.handled("F"):
		op = "g"
	case of.kind == api.TypInt && m.handled("E"):
		op, takes = "e", base(api.TypUnit)
	case of.kind == api.TypBool && m.handled("E"):
		op = "f"
	case of.kind == api.TypUnit && m.handled("E"):
		op, takes = "tell", data("L")
	default:
		return api.Term{}, false
	}
	return do(op, m.term(e, takes, size-1)), true
}

// byType makes up a term by what makes such values.
func (m *maker) byType(e []entry, of *typ, size int) api.Term {
	op := func(kind int, name string, takes ...*typ) api.Term {
		return term(kind, name, m.terms(e, size-1, takes...)...)
	}
	number, hard := base(api.TypInt), m.under(2) == 0
	switch {
	case of.kind == api.TypInt && hard:
		return op(api.TermOp, pick(&m.dice, []string{"+", "-", "*", "/"}), number, number)
	case of.kind == api.TypInt:
		return op(api.TermOp, "read")
	case of.kind == api.TypBool:
		return op(api.TermOp, pick(&m.dice, []string{"<", "="}), number, number)
	case of.kind == api.TypUnit && hard:
		return op(api.TermOp, "print", number)
	case of.kind == api.TypUnit:
		held := pick(&m.dice, []*typ{number, number, m.typ(1)})
		return op(api.TermOp, ":=", &typ{kind: api.TypRef, takes: held}, held)
	case of.kind == api.TypRef:
		return op(api.TermOp, "ref", of.takes)
	case of.kind == api.TypFun:
		return m.function(e, of, size)
	case of.name == "L" && hard:
		return op(api.TermCon, "Cons", number, of)
	case of.name == "P" && hard:
		return op(api.TermCon, "Pair", number, base(api.TypBool))
	case of.name == "P":
		return op(api.TermCon, "One", data("L"))
	}
	return m.leaf(e, of)
}

func (m *maker) function(e []entry, of *typ, size int) api.Term {
	name := m.name()
	return term(api.TermFun, name, m.term(append(e[:len(e):len(e)], entry{name, of.takes}), of.ans, size-1))
}

// known is a name that is of a type, of those that are not hidden by others.
func (m *maker) known(e []entry, fits func(of *typ) bool) (entry, bool) {
	hidden, can := map[string]int{}, []entry{}
	for i := len(e) - 1; i >= 0; i-- {
		hidden[e[i].name]++
		if hidden[e[i].name] == 1 && fits(e[i].of) {
			can = append(can, e[i])
		}
	}
	if len(can) == 0 {
		return entry{}, false
	}
	return pick(&m.dice, can), true
}

// call makes up a call of a name that there is: a function, or a resumption.
func (m *maker) call(e []entry, of *typ, size int) (api.Term, bool) {
	f, found := m.known(e, func(f *typ) bool { return f.kind == api.TypFun && f.ans.same(of) })
	if !found {
		return api.Term{}, false
	}
	return apply(variable(f.name), m.term(e, f.of.takes, size-1)), true
}

// leaf makes up a small term.
func (m *maker) leaf(e []entry, of *typ) api.Term {
	if at, found := m.known(e, of.same); found && m.under(6) > 0 {
		return variable(at.name)
	}
	switch of.kind {
	case api.TypInt:
		return whole(m.under(5))
	case api.TypBool:
		return api.Term{Kind: api.TermBool, N: m.under(2)}
	case api.TypUnit:
		return api.Term{Kind: api.TermUnit}
	case api.TypRef:
		return term(api.TermOp, "ref", m.leaf(e, of.takes))
	case api.TypFun:
		return m.function(e, of, 1)
	}
	if of.name == "P" {
		return term(api.TermCon, "One", m.leaf(e, data("L")))
	}
	return term(api.TermCon, "Nil")
}

func (m *maker) match(e []entry, of *typ, size int) api.Term {
	way := func(name string, takes ...*typ) api.Arm {
		a, inner := api.Arm{Name: name}, e[:len(e):len(e)]
		for i, of := range takes {
			name := []string{"x", "y"}[i]
			a.Vars, inner = append(a.Vars, name), append(inner, entry{name, of})
		}
		a.Body = m.term(inner, of, size-1)
		return a
	}
	if m.under(2) == 0 {
		return match(m.term(e, data("L"), size-1), way("Nil"), way("Cons", base(api.TypInt), data("L")))
	}
	return match(m.term(e, data("P"), size-1), way("Pair", base(api.TypInt), base(api.TypBool)), way("One", data("L")))
}

// loop makes up a function that calls itself, with less each time.
func (m *maker) loop(e []entry, of *typ, size int) api.Term {
	f := entry{"f", arrow(base(api.TypInt), of)}
	inner := append(e[:len(e):len(e)], f, entry{"n", base(api.TypInt)})
	less := apply(variable("f"), term(api.TermOp, "-", variable("n"), whole(1)))
	again := let("y", less, m.term(append(inner, entry{"y", of}), of, size-1))
	b := term(api.TermIf, "", term(api.TermOp, "<", variable("n"), whole(1)), m.term(inner[:len(inner)-2], of, size-2), again)
	return rec("f", "n", b, apply(variable("f"), whole(m.under(4))))
}

// handled tells whether an operation of an effect is to be asked: mostly, if there is a handler around.
func (m *maker) handled(effect string) bool {
	if m.around[effect] > 0 {
		return m.under(3) == 0
	}
	return m.under(40) == 0
}

// handler makes up a handler, whose clauses resume never, once, or several times.
func (m *maker) handler(e []entry, of *typ, size int) api.Term {
	handled, unit, number := m.typ(1), base(api.TypUnit), base(api.TypInt)
	inner := func(more ...entry) []entry { return append(e[:len(e):len(e)], more...) }
	effect := pick(&m.dice, []string{"E", "F"})
	m.around[effect]++
	within := m.term(e, handled, size-1)
	m.around[effect]--
	t := handle(within, arm("return", m.term(inner(entry{"x", handled}), of, size-1), "x"))
	clause := func(op string, takes, answers *typ) {
		b := m.term(inner(entry{"x", takes}, entry{"k", arrow(answers, of)}), of, size-1)
		t.Arms = append(t.Arms, arm(op, b, "x", "k"))
	}
	if t.Name = effect; effect == "F" {
		clause("g", number, number)
		return t
	}
	clause("e", unit, number)
	clause("f", number, base(api.TypBool))
	clause("tell", data("L"), unit)
	return t
}

// shown is a program that is told by its text, if it has one.
type shown struct{ api.Program }

func (p shown) String() string {
	text, err := print.Print(p.Program)
	if err != api.OK {
		return fmt.Sprintf("%+v", p.Body)
	}
	return text
}

// TestMade makes up programs: both ways go the same steps.
func TestMade(t *testing.T) {
	m := newMaker(1)
	ends, many, several := map[int]int{}, 0, 0
	for range 4000 {
		p := m.program(1 + m.under(7))
		got := ways(t, shown{p}, p, []int{3, -1, 4, 1, -5, 9, 2}[:m.under(8)], 400)
		ends[got.Outcome.Kind]++
		if got.Konts > 0 && got.Outcome.Kind == api.OutValue {
			several++
		}
		if got.Steps > 100 {
			many++
		}
	}
	for end, least := range map[int]int{api.OutMore: 20, api.OutValue: 1000, api.OutZero: 20, api.OutInput: 20, api.OutStuck: 200} {
		if ends[end] < least {
			t.Errorf("only %d ended as %d", ends[end], end)
		}
	}
	if many < 300 || several < 300 {
		t.Errorf("only %d were long, %d resumed and ended", many, several)
	}
}

// spoil changes one thing in a term.
func (m *maker) spoil(b *api.Term) {
	all := places(b)
	at := pick(&m.dice, all)
	switch m.under(9) {
	case 0:
		at.Kind = m.under(18) - 1
	case 1:
		at.Name = pick(&m.dice, []string{"x", "k", "f", "g", "e", "+", "print", "Nil", "Cons", "Pair", "", "_"})
	case 2:
		at.N = m.under(9) - 4
	case 3:
		at.Kids = at.Kids[:len(at.Kids)/2]
	case 4:
		at.Kids = append(at.Kids[:len(at.Kids):len(at.Kids)], m.term(nil, m.typ(1), 2))
	case 5:
		at.Arms = at.Arms[len(at.Arms)/2:]
	case 6:
		*at = m.term([]entry{{"x", base(api.TypInt)}, {"k", arrow(base(api.TypInt), base(api.TypInt))}}, m.typ(1), 3)
	case 7:
		*at = own(*pick(&m.dice, all))
	default:
		if len(at.Arms) > 0 {
			a := &at.Arms[m.under(len(at.Arms))]
			*a = pick(&m.dice, []api.Arm{{}, arm("e", a.Body, "x"), arm("g", a.Body, "k", "k"), arm("Nil", a.Body), arm(a.Name, a.Body, append(a.Vars, "x")...)})
		}
	}
}

// TestSpoilt spoils made-up programs again and again: both ways go the same steps.
func TestSpoilt(t *testing.T) {
	m := newMaker(2)
	ends := map[int]int{}
	for range 1500 {
		p := m.program(2 + m.under(5))
		for range 4 {
			p.Body = own(p.Body)
			m.spoil(&p.Body)
			if len(places(&p.Body)) > 2000 {
				break
			}
			got := ways(t, shown{p}, p, []int{3, -1, 4}, 200)
			ends[got.Outcome.Kind]++
		}
	}
	for end, least := range map[int]int{api.OutMore: 20, api.OutValue: 500, api.OutZero: 20, api.OutInput: 20, api.OutStuck: 1000} {
		if ends[end] < least {
			t.Errorf("only %d ended as %d", ends[end], end)
		}
	}
}

// TestTyped makes up programs: what has types is never stuck, whatever there is to read.
func TestTyped(t *testing.T) {
	m := newMaker(3)
	right, resumed, ends := 0, 0, map[int]int{}
	for range 7000 {
		p := m.program(1 + m.under(6))
		p, _, err := infer.Infer(p)
		if err != api.OK {
			continue
		}
		right++
		for _, input := range [][]int{nil, {1, 0, 2}, {7, -3, 0, 1, 1, 2, 3, 4, 5, 6, 7, 8}} {
			got := ways(t, shown{p}, p, input, 150)
			ends[got.Outcome.Kind]++
			if got.Outcome.Kind == api.OutStuck {
				t.Fatalf("%s: stuck with %v", shown{p}, input)
			}
			if got.Konts > 1 {
				resumed++
			}
		}
	}
	if right < 2000 || resumed < 500 || ends[api.OutZero] < 20 || ends[api.OutInput] < 20 {
		t.Errorf("only %d were right, %d resumed, ended as %v", right, resumed, ends)
	}
}
