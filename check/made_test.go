package check_test

import (
	"slices"
	"testing"

	"brocade/api"
	"brocade/check"
	"brocade/infer"
	"brocade/scheme"
	"brocade/subst"
	"brocade/types"
	"brocade/unify"
)

// dice are numbers that are the same in each run.
type dice uint32

func (d *dice) under(n int) int {
	*d = *d*1664525 + 1013904223
	return int(uint32(*d)>>8) % n
}

func pick[A any](d *dice, l []A) A { return l[d.under(len(l))] }

// maker makes up programs with types that are right by the rules; the variables in these stand for themselves.
type maker struct {
	dice
	api.Program
	taken int // variables
}

func newMaker(t *testing.T, luck int) *maker {
	t.Helper()
	return &maker{dice: dice(luck), Program: read(t, declarations+"1")}
}

// flexible is the first variable of which something may be said while a type is looked for.
const flexible = 1000000

// row makes up a row, now and then with a variable that there was not yet.
func (m *maker) row() api.Row {
	var r api.Row
	for range m.under(3) {
		r = types.Add(r, pick(&m.dice, []string{"E", "F", "None", "console"}))
	}
	if m.under(3) > 0 {
		r.Var = m.variable()
	}
	return r
}

func (m *maker) variable() int {
	if m.taken == 0 || m.under(3) == 0 {
		m.taken++
	}
	return m.taken - m.under(min(m.taken, 3))
}

// typ makes up a type that is at most so deep.
func (m *maker) typ(deep int) api.Type {
	switch least := m.under(10); {
	case deep > 1 && least < 3:
		return fun(m.typ(deep-1), m.row(), m.typ(deep-1))
	case deep > 1 && least == 3:
		return ref(m.typ(deep - 1))
	case least%5 == 4:
		return variable(m.variable())
	}
	return pick(&m.dice, []api.Type{kind(api.TypInt), kind(api.TypBool), kind(api.TypUnit), data("L"), data("One"), data("Three")})
}

func (m *maker) name() string { return pick(&m.dice, []string{"x", "y", "z", "f", "g", "_"}) }

// whole makes up a program, each term at a place of its own.
func (m *maker) whole(size int) api.Program {
	m.taken = 0
	m.Body = m.term(nil, row(0, "console"), m.typ(3), size)
	number(&m.Program)
	return m.Program
}

// term makes up a term of a type in a row.
func (m *maker) term(e entries, r api.Row, of api.Type, size int) api.Term {
	t := m.bare(e, r, of, size)
	t.Type, t.Row = of, r
	return t
}

// bare makes up a term, at which nothing stands yet.
func (m *maker) bare(e entries, r api.Row, of api.Type, size int) api.Term {
	if size <= 0 {
		return m.leaf(e, r, of)
	}
	kid := func(of api.Type) api.Term { return m.term(e, r, of, size-1) }
	switch m.under(12) {
	case 0, 1:
		return m.let(e, r, of, size)
	case 2:
		return m.rec(e, r, of, size)
	case 3:
		takes := m.typ(2)
		return api.Term{Kind: api.TermApp, Kids: []api.Term{kid(fun(takes, r, of)), kid(takes)}}
	case 4:
		return api.Term{Kind: api.TermIf, Kids: []api.Term{kid(kind(api.TypBool)), kid(of), kid(of)}}
	case 5:
		return m.match(e, r, of, size)
	case 6:
		return m.handle(e, r, of, size)
	case 7:
		return api.Term{Kind: api.TermOp, Name: "!", Kids: []api.Term{kid(ref(of))}}
	case 8, 9:
		if t, found := m.use(e, r, of, size); found {
			return t
		}
	}
	return m.byType(e, r, of, size)
}

func (m *maker) byType(e entries, r api.Row, of api.Type, size int) api.Term {
	op := func(name string, kids ...api.Type) api.Term {
		t := api.Term{Kind: api.TermOp, Name: name}
		for _, kid := range kids {
			t.Kids = append(t.Kids, m.term(e, r, kid, size-1))
		}
		return t
	}
	do := func(name string, takes api.Type) api.Term {
		t := op(name, takes)
		t.Kind = api.TermDo
		return t
	}
	whole, held := kind(api.TypInt), m.typ(2)
	has := func(label string) bool { return slices.Contains(r.Labels, label) && m.under(2) == 0 }
	switch {
	case of.Kind == api.TypInt && has("E"):
		return do("e", kind(api.TypUnit))
	case of.Kind == api.TypInt && has("console"):
		return op("read")
	case of.Kind == api.TypInt:
		return op(pick(&m.dice, []string{"+", "-", "*", "/"}), whole, whole)
	case of.Kind == api.TypBool && has("F"):
		return do("f", whole)
	case of.Kind == api.TypBool:
		return op(pick(&m.dice, []string{"<", "="}), whole, whole)
	case of.Kind == api.TypUnit && has("E"):
		return do("tell", data("L"))
	case of.Kind == api.TypUnit && has("console"):
		return op("print", whole)
	case of.Kind == api.TypUnit:
		return op(":=", ref(held), held)
	case of.Kind == api.TypRef:
		return op("ref", of.Args[0])
	case of.Kind == api.TypFun:
		return m.fun(e, of, size)
	case of.Kind == api.TypData:
		con := pick(&m.dice, m.data(of.Name).Cons)
		t := op(con.Name, con.Fields...)
		t.Kind = api.TermCon
		return t
	}
	return m.leaf(e, r, of)
}

func (m *maker) fun(e entries, of api.Type, size int) api.Term {
	name := m.name()
	body := m.term(e.bare(name, of.Args[0]), of.Row, of.Args[1], size-1)
	return api.Term{Kind: api.TermFun, Name: name, Kids: []api.Term{body}}
}

func (m *maker) data(name string) api.Data {
	return m.Datas[slices.IndexFunc(m.Datas, func(d api.Data) bool { return d.Name == name })]
}

// leaf makes up a least term: a variable, if there is one, or a value; or a function that does not end, called.
func (m *maker) leaf(e entries, r api.Row, of api.Type) api.Term {
	var can []string
	for _, known := range e {
		if scheme.Instance(e.of(known.name), of) {
			can = append(can, known.name)
		}
	}
	if len(can) > 0 && m.under(5) > 0 {
		return api.Term{Kind: api.TermVar, Name: pick(&m.dice, can)}
	}
	switch of.Kind {
	case api.TypInt:
		return api.Term{Kind: api.TermInt, N: m.under(9)}
	case api.TypBool:
		return api.Term{Kind: api.TermBool, N: m.under(2)}
	case api.TypUnit:
		return api.Term{Kind: api.TermUnit}
	case api.TypFun:
		return m.fun(e, of, 0)
	case api.TypData:
		for _, con := range m.data(of.Name).Cons {
			if con.Name != "Cons" && con.Name != "B" {
				t := api.Term{Kind: api.TermCon, Name: con.Name}
				for _, field := range con.Fields {
					t.Kids = append(t.Kids, m.term(e, r, field, 0))
				}
				return t
			}
		}
	}
	return endless(r, of)
}

// endless is a term that is of any type: a function that calls itself for ever, called.
func endless(r api.Row, of api.Type) api.Term {
	unit := kind(api.TypUnit)
	own := fun(unit, r, of)
	call := func(argument api.Term) api.Term {
		f := api.Term{Kind: api.TermVar, Name: "f", Type: own, Row: r}
		argument.Type, argument.Row = unit, r
		return api.Term{Kind: api.TermApp, Type: of, Row: r, Kids: []api.Term{f, argument}}
	}
	kids := []api.Term{call(api.Term{Kind: api.TermVar, Name: "x"}), call(api.Term{Kind: api.TermUnit})}
	return api.Term{Kind: api.TermRec, Name: "f", Param: "x", Own: own, Kids: kids}
}

func (m *maker) let(e entries, r api.Row, of api.Type, size int) api.Term {
	name, is := m.name(), m.term(e, r, m.typ(3), size-1)
	s := scheme.Bare(is.Type)
	if slowValue(is) {
		s = e.general(is.Type)
	}
	return api.Term{Kind: api.TermLet, Name: name, Kids: []api.Term{is, m.term(e.and(name, s), r, of, size-1)}}
}

func (m *maker) rec(e entries, r api.Row, of api.Type, size int) api.Term {
	name, param, own := m.name(), m.name(), fun(m.typ(2), m.row(), m.typ(2))
	body := m.term(e.bare(name, own).bare(param, own.Args[0]), own.Row, own.Args[1], size-1)
	in := m.term(e.and(name, e.general(own)), r, of, size-1)
	return api.Term{Kind: api.TermRec, Name: name, Param: param, Own: own, Kids: []api.Term{body, in}}
}

func (m *maker) match(e entries, r api.Row, of api.Type, size int) api.Term {
	d := pick(&m.dice, m.Datas)
	t := api.Term{Kind: api.TermMatch, Kids: []api.Term{m.term(e, r, data(d.Name), size-1)}}
	for _, con := range d.Cons {
		arm, inner := api.Arm{Name: con.Name}, e
		for i, field := range con.Fields {
			name := pick(&m.dice, []string{"_", []string{"x", "y"}[i]})
			arm.Vars, inner = append(arm.Vars, name), inner.bare(name, field)
		}
		arm.Body = m.term(inner, r, of, size-1)
		t.Arms = append(t.Arms, arm)
	}
	return t
}

func (m *maker) handle(e entries, r api.Row, of api.Type, size int) api.Term {
	effect, handled, x := pick(&m.dice, m.Effects), m.typ(2), m.name()
	t := api.Term{Kind: api.TermHandle, Name: effect.Name, Kids: []api.Term{m.term(e, types.Add(r, effect.Name), handled, size-1)}}
	t.Arms = append(t.Arms, api.Arm{Name: "return", Vars: []string{x}, Body: m.term(e.bare(x, handled), r, of, size-1)})
	for _, op := range effect.Ops {
		x, k := pick(&m.dice, []string{"x", "y", "_"}), pick(&m.dice, []string{"g", "f"})
		inner := e.bare(x, op.Arg).bare(k, fun(op.Res, r, of))
		t.Arms = append(t.Arms, api.Arm{Name: op.Name, Vars: []string{x, k}, Body: m.term(inner, r, of, size-1)})
	}
	return t
}

// use makes up a call of a name that is told, of some instance of its scheme, if there is one that fits.
func (m *maker) use(e entries, r api.Row, of api.Type, size int) (api.Term, bool) {
	if len(e) == 0 {
		return api.Term{}, false
	}
	name := pick(&m.dice, e).name
	is, next := scheme.Fresh(e.of(name), flexible)
	if is.Kind != api.TypFun {
		return api.Term{}, false
	}
	s, next, err := unify.Types(subst.None(), is.Args[1], of, next)
	if err == api.OK {
		s, next, err = unify.Rows(s, is.Row, r, next)
	}
	said, saidRows := s.Vars()
	if err != api.OK || slices.ContainsFunc(slices.Concat(said, saidRows), func(n int) bool { return n < flexible }) {
		return api.Term{}, false
	}
	anything := subst.None()
	for n := flexible; n < next; n++ {
		anything = anything.SetType(n, m.typ(1)).SetRow(n, m.row())
	}
	is = s.Then(anything).Apply(is)
	f := api.Term{Kind: api.TermVar, Name: name, Type: is, Row: r}
	return api.Term{Kind: api.TermApp, Kids: []api.Term{f, m.term(e, r, is.Args[0], size-1)}}, true
}

// TestMade makes up programs with types: they are right; erased they are inferred, what is inferred of the body is at
// least as general, and right in its turn.
func TestMade(t *testing.T) {
	m := newMaker(t, 1)
	generalized := 0
	for range 1200 {
		p := m.whole(1 + m.under(6))
		if len(within(&p.Body)) > 700 {
			continue
		}
		if wantSlow(t, p) != api.OK {
			t.Fatalf("%s: %q", source(p), all(p.Body))
		}
		out, at, err := infer.Infer(check.Erase(p))
		if err != api.OK {
			t.Fatalf("%s: %v at %d", source(p), err, at)
		}
		if !scheme.Instance(scheme.General(nil, out.Body.Type), p.Body.Type) {
			t.Fatalf("%s: %s, not as general as %s", source(p), told(out.Body), told(p.Body))
		}
		wantCheck(t, source(p), out, 0, api.OK)
		for _, at := range within(&p.Body) {
			if kinds, rows := types.Vars(at.Type); at.Kind == api.TermVar && at.Type.Kind == api.TypFun && len(kinds)+len(rows) > 0 {
				generalized++
			}
		}
	}
	if generalized < 300 {
		t.Errorf("only %d were generalized", generalized)
	}
}

// otherType is another type in the stead of one, right or not.
func (m *maker) otherType(t api.Type, places []*api.Term) api.Type {
	switch m.under(6) {
	case 0:
		return pick(&m.dice, places).Type
	case 1:
		return m.typ(3)
	case 2:
		return pick(&m.dice, []api.Type{{}, {Kind: 8}, {Kind: api.TypInt, Var: 1}, {Kind: api.TypData}, variable(0), variable(-1), {Kind: api.TypFun}, ref(api.Type{}), {Kind: api.TypBool, Name: "b"}, {Kind: api.TypUnit, Row: row(1)}})
	}
	if len(t.Args) > 0 {
		t.Args = slices.Clone(t.Args)
		if t.Kind == api.TypFun && m.under(3) == 0 {
			t.Row = m.otherRow(t.Row, places)
		} else {
			arg := &t.Args[m.under(len(t.Args))]
			*arg = m.otherType(*arg, places)
		}
		return t
	}
	return variable(m.variable())
}

// otherRow is another row in the stead of one, right or not.
func (m *maker) otherRow(r api.Row, places []*api.Term) api.Row {
	switch m.under(7) {
	case 0:
		return pick(&m.dice, places).Row
	case 1:
		return m.row()
	case 2:
		return types.Add(r, pick(&m.dice, []string{"E", "F", "console"}))
	case 3:
		out, _ := types.Less(r, pick(&m.dice, []string{"E", "F", "console"}))
		return out
	case 4:
		return pick(&m.dice, []api.Row{row(-1), row(0, ""), row(0, "console", "E"), row(1, "F", "E"), {}})
	case 5:
		labels := slices.Clone(r.Labels)
		slices.Reverse(labels)
		return api.Row{Labels: labels, Var: r.Var}
	}
	return api.Row{Labels: r.Labels, Var: m.under(3)}
}

// spoil changes what stands at one term, or, by one substitution, what stands at a term and at all within it.
func (m *maker) spoil(body *api.Term) {
	places := within(body)
	at := pick(&m.dice, places)
	switch m.under(6) {
	case 0, 1:
		at.Type = m.otherType(at.Type, places)
	case 2:
		at.Row = m.otherRow(at.Row, places)
	case 3:
		at.Own = m.otherType(at.Own, places)
	default:
		s := subst.None().SetType(m.variable(), m.typ(2)).SetRow(m.variable(), m.row())
		for _, t := range within(at) {
			t.Type, t.Own, t.Row = s.Apply(t.Type), s.Apply(t.Own), s.ApplyRow(t.Row)
		}
	}
}

// TestSpoilt spoils what stands at the terms of made up programs: both ways tell the same first wrong one.
func TestSpoilt(t *testing.T) {
	m := newMaker(t, 2)
	right, wrong := 0, map[int]int{}
	for range 2500 {
		p := m.whole(1 + m.under(5))
		if len(within(&p.Body)) > 250 {
			continue
		}
		p.Body = own(p.Body)
		for range 5 {
			before := own(p.Body)
			m.spoil(&p.Body)
			if wantSlow(t, p) == api.OK {
				right++
				continue
			}
			at, _ := check.Check(p)
			wrong[within(&p.Body)[at-100].Kind]++
			p.Body = before
		}
	}
	if right < 1000 {
		t.Errorf("only %d were right", right)
	}
	for kind := api.TermVar; kind <= api.TermHandle; kind++ {
		if wrong[kind] < 3 {
			t.Errorf("only %d of kind %d were wrong", wrong[kind], kind)
		}
	}
}
