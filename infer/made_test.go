package infer_test

import (
	"maps"
	"slices"
	"testing"

	"brocade/api"
	"brocade/infer"
	"brocade/scheme"
	"brocade/scope"
	"brocade/subst"
	"brocade/types"
	"brocade/unify"
)

// dice are numbers that are the same in each run.
type dice uint32

func (d *dice) under(n int) int {
	*d = *d*1664525 + 1013904223
	return int(uint32(*d)>>8) % n
}

func pick[A any](d *dice, l []A) A { return l[d.under(len(l))] }

// maker makes up programs with types that are right by the rules; the variables in these stand for themselves.
type maker struct {
	dice
	api.Program
	taken int // variables
	count int // terms
}

// flexible is the first variable of which something may be said while a type is looked for.
const flexible = 1000000

// row makes up a row, now and then with a variable that there was not yet.
func (m *maker) row() api.Row {
	var r api.Row
	for range m.under(3) {
		r = types.Add(r, pick(&m.dice, []string{"E", "F", "None", "console"}))
	}
	if m.under(3) > 0 {
		r.Var = m.variable()
	}
	return r
}

func (m *maker) variable() int {
	if m.taken == 0 || m.under(3) == 0 {
		m.taken++
	}
	return m.taken - m.under(min(m.taken, 3))
}

// typ makes up a type that is at most so deep.
func (m *maker) typ(deep int) api.Type {
	switch least := m.under(10); {
	case deep > 1 && least < 3:
		return fun(m.typ(deep-1), m.row(), m.typ(deep-1))
	case deep > 1 && least == 3:
		return ref(m.typ(deep - 1))
	case least%5 == 4:
		return variable(m.variable())
	}
	return pick(&m.dice, []api.Type{kind(api.TypInt), kind(api.TypBool), kind(api.TypUnit), data("L"), data("One"), data("Three")})
}

func (m *maker) name() string { return pick(&m.dice, []string{"x", "y", "z", "f", "g"}) }

// term makes up a term of a type in a row.
func (m *maker) term(a around, r api.Row, of api.Type, size int) api.Term {
	m.count++
	at := m.count * 7919 % 100003
	t := m.bare(a, r, of, size)
	t.At, t.Type, t.Row = at, of, r
	return t
}

func (m *maker) bare(a around, r api.Row, of api.Type, size int) api.Term {
	if size <= 0 {
		return m.leaf(a, r, of)
	}
	kid := func(of api.Type) api.Term { return m.term(a, r, of, size-1) }
	switch m.under(12) {
	case 0, 1:
		return m.let(a, r, of, size)
	case 2:
		return m.rec(a, r, of, size)
	case 3:
		takes := m.typ(2)
		return term(api.TermApp, "", kid(fun(takes, r, of)), kid(takes))
	case 4:
		return term(api.TermIf, "", kid(kind(api.TypBool)), kid(of), kid(of))
	case 5:
		return m.match(a, r, of, size)
	case 6:
		return m.handle(a, r, of, size)
	case 7:
		return term(api.TermOp, "!", kid(ref(of)))
	case 8, 9:
		if t, found := m.use(a, r, of, size); found {
			return t
		}
	}
	return m.made(a, r, of, size)
}

// made makes up a term by its type.
func (m *maker) made(a around, r api.Row, of api.Type, size int) api.Term {
	kid := func(of api.Type) api.Term { return m.term(a, r, of, size-1) }
	whole := kind(api.TypInt)
	switch of.Kind {
	case api.TypInt:
		if slices.Contains(r.Labels, "E") && m.under(2) == 0 {
			return term(api.TermDo, "e", kid(kind(api.TypUnit)))
		}
		if slices.Contains(r.Labels, "console") && m.under(2) == 0 {
			return term(api.TermOp, "read")
		}
		return term(api.TermOp, pick(&m.dice, []string{"+", "-", "*", "/"}), kid(whole), kid(whole))
	case api.TypBool:
		if slices.Contains(r.Labels, "F") && m.under(2) == 0 {
			return term(api.TermDo, "f", kid(whole))
		}
		return term(api.TermOp, pick(&m.dice, []string{"<", "="}), kid(whole), kid(whole))
	case api.TypUnit:
		if slices.Contains(r.Labels, "E") && m.under(2) == 0 {
			return term(api.TermDo, "tell", kid(data("L")))
		}
		if slices.Contains(r.Labels, "console") && m.under(2) == 0 {
			return term(api.TermOp, "print", kid(whole))
		}
		held := m.typ(2)
		return term(api.TermOp, ":=", kid(ref(held)), kid(held))
	case api.TypRef:
		return term(api.TermOp, "ref", kid(of.Args[0]))
	case api.TypFun:
		name := m.name()
		return term(api.TermFun, name, m.term(a.bare(name, of.Args[0]), of.Row, of.Args[1], size-1))
	case api.TypData:
		d := m.data(of.Name)
		con := pick(&m.dice, d.Cons)
		return term(api.TermCon, con.Name, each(con.Fields, kid)...)
	}
	return m.leaf(a, r, of)
}

func (m *maker) data(name string) api.Data {
	return m.Datas[slices.IndexFunc(m.Datas, func(d api.Data) bool { return d.Name == name })]
}

// leaf makes up a least term: a variable, if there is one, or a value; or a function that does not end, called.
func (m *maker) leaf(a around, r api.Row, of api.Type) api.Term {
	var can []string
	for _, name := range slices.Sorted(maps.Keys(a)) {
		if scheme.Instance(a[name], of) {
			can = append(can, name)
		}
	}
	if len(can) > 0 && m.under(5) > 0 {
		return term(api.TermVar, pick(&m.dice, can))
	}
	switch of.Kind {
	case api.TypInt:
		return api.Term{Kind: api.TermInt, N: m.under(9)}
	case api.TypBool:
		return api.Term{Kind: api.TermBool, N: m.under(2)}
	case api.TypUnit:
		return term(api.TermUnit, "")
	case api.TypFun:
		name := m.name()
		return term(api.TermFun, name, m.term(a.bare(name, of.Args[0]), of.Row, of.Args[1], 0))
	case api.TypData:
		for _, con := range m.data(of.Name).Cons {
			if con.Name != "Cons" && con.Name != "B" {
				return term(api.TermCon, con.Name, each(con.Fields, func(of api.Type) api.Term { return m.term(a, r, of, 0) })...)
			}
		}
	}
	t := term(api.TermRec, "f")
	t.Param, t.Own = "x", fun(kind(api.TypUnit), r, of)
	call := func(argument string) api.Term {
		kid := term(api.TermVar, argument)
		if argument == "" {
			kid = term(api.TermUnit, "")
		}
		f := term(api.TermVar, "f")
		f.Type, f.Row, kid.Type, kid.Row = t.Own, r, kind(api.TypUnit), r
		out := term(api.TermApp, "", f, kid)
		out.Type, out.Row = of, r
		return out
	}
	t.Kids = []api.Term{call("x"), call("")}
	return t
}

func (m *maker) let(a around, r api.Row, of api.Type, size int) api.Term {
	name, is := m.name(), m.term(a, r, m.typ(3), size-1)
	s := scheme.Bare(is.Type)
	if isValue(is) {
		s = a.general(is.Type)
	}
	return term(api.TermLet, name, is, m.term(a.and(name, s), r, of, size-1))
}

func (m *maker) rec(a around, r api.Row, of api.Type, size int) api.Term {
	name, param, own := m.name(), m.name(), fun(m.typ(2), m.row(), m.typ(2))
	body := m.term(a.bare(name, own).bare(param, own.Args[0]), own.Row, own.Args[1], size-1)
	t := term(api.TermRec, name, body, m.term(a.and(name, a.general(own)), r, of, size-1))
	t.Param, t.Own = param, own
	return t
}

func (m *maker) match(a around, r api.Row, of api.Type, size int) api.Term {
	d := pick(&m.dice, m.Datas)
	t := term(api.TermMatch, "", m.term(a, r, data(d.Name), size-1))
	for _, con := range d.Cons {
		arm, b := api.Arm{Name: con.Name}, a
		for i, field := range con.Fields {
			name := []string{"x", "y"}[i]
			arm.Vars, b = append(arm.Vars, name), b.bare(name, field)
		}
		arm.Body = m.term(b, r, of, size-1)
		t.Arms = append(t.Arms, arm)
	}
	return t
}

func (m *maker) handle(a around, r api.Row, of api.Type, size int) api.Term {
	effect, handled := pick(&m.dice, m.Effects), m.typ(2)
	t := term(api.TermHandle, effect.Name, m.term(a, types.Add(r, effect.Name), handled, size-1))
	t.Arms = append(t.Arms, api.Arm{Name: "return", Vars: []string{"x"}, Body: m.term(a.bare("x", handled), r, of, size-1)})
	for _, op := range effect.Ops {
		b := a.bare("x", op.Arg).bare("g", fun(op.Res, r, of))
		t.Arms = append(t.Arms, api.Arm{Name: op.Name, Vars: []string{"x", "g"}, Body: m.term(b, r, of, size-1)})
	}
	return t
}

// use makes up a call of a name that is known, of some instance of its scheme, if there is one that fits.
func (m *maker) use(a around, r api.Row, of api.Type, size int) (api.Term, bool) {
	if len(a) == 0 {
		return api.Term{}, false
	}
	name := pick(&m.dice, slices.Sorted(maps.Keys(a)))
	is, next := scheme.Fresh(a[name], flexible)
	if is.Kind != api.TypFun {
		return api.Term{}, false
	}
	s, next, err := unify.Types(subst.None(), is.Args[1], of, next)
	if err == api.OK {
		s, next, err = unify.Rows(s, is.Row, r, next)
	}
	if kinds, rows := s.Vars(); err != api.OK || slices.ContainsFunc(slices.Concat(kinds, rows), func(n int) bool { return n < flexible }) {
		return api.Term{}, false
	}
	anything := subst.None()
	for n := flexible; n < next; n++ {
		anything = anything.SetType(n, m.typ(1)).SetRow(n, m.row())
	}
	is = s.Then(anything).Apply(is)
	f := term(api.TermVar, name)
	f.Type, f.Row = is, r
	return term(api.TermApp, "", f, m.term(a, r, is.Args[0], size-1)), true
}

// found is what the variables that were inferred have to be, for the types to become others.
type found struct {
	types map[int]api.Type
	rows  map[int]api.Row
}

// meets tells whether what was found may be such that the one type becomes the other one.
func (f found) meets(t, want api.Type) bool {
	if t.Kind == api.TypVar {
		before, known := f.types[t.Var]
		f.types[t.Var] = want
		return !known || types.Same(before, want)
	}
	if t.Kind != want.Kind || t.Name != want.Name || len(t.Args) != len(want.Args) {
		return false
	}
	for i := range t.Args {
		if !f.meets(t.Args[i], want.Args[i]) {
			return false
		}
	}
	return t.Kind != api.TypFun || f.meetsRow(t.Row, want.Row)
}

func (f found) meetsRow(r, want api.Row) bool {
	for _, label := range r.Labels {
		less, there := types.Less(want, label)
		if !there {
			return false
		}
		want = less
	}
	if r.Var == 0 {
		return want.Var == 0 && len(want.Labels) == 0
	}
	before, known := f.rows[r.Var]
	f.rows[r.Var] = want
	return !known || types.SameRow(before, want)
}

// wantGeneral holds that one substitution makes, of all that was inferred, all that stands in another program.
func wantGeneral(t *testing.T, inferred, other api.Program) {
	t.Helper()
	f := found{map[int]api.Type{}, map[int]api.Row{}}
	others := within(&other.Body)
	for i, at := range within(&inferred.Body) {
		if !f.meets(at.Type, others[i].Type) || !f.meetsRow(at.Row, others[i].Row) || !f.meets(at.Own, others[i].Own) {
			t.Fatalf("%s: %d: %s does not become %s: %q, %q", source(other), i, told(*at), told(*others[i]), all(inferred.Body), all(other.Body))
		}
	}
}

// erased is a program without what was inferred.
func erased(p api.Program) api.Program {
	p.Body = own(p.Body)
	for _, t := range within(&p.Body) {
		t.Type, t.Row, t.Own = api.Type{}, api.Row{}, api.Type{}
	}
	return p
}

// program makes up a program.
func (m *maker) program(size int) api.Program {
	m.taken, m.count = 0, 0
	m.Body = m.term(around{}, row(0, "console"), m.typ(3), size)
	return m.Program
}

// TestMade makes up programs with types: without them they are inferred, and what is inferred is more general.
func TestMade(t *testing.T) {
	m := maker{dice: 1, Program: read(t, declarations+"1")}
	generalized := 0
	for range 900 {
		p := m.program(1 + m.under(6))
		if len(within(&p.Body)) > 700 {
			continue
		}
		wantRight(t, source(p), p)
		out := infers(t, source(p), erased(p))
		wantGeneral(t, out, p)
		wantSecond(t, p)
		again := infers(t, source(p), out)
		if !slices.Equal(all(again.Body), all(out.Body)) {
			t.Fatalf("%s: %q, not %q", source(p), all(again.Body), all(out.Body))
		}
		for _, at := range within(&p.Body) {
			if at.Kind != api.TermLet || !isValue(at.Kids[0]) {
				continue
			}
			if kinds, rows := types.Vars(at.Kids[0].Type); len(kinds)+len(rows) > 0 {
				generalized++
			}
		}
	}
	if generalized < 250 {
		t.Errorf("only %d were generalized", generalized)
	}
}

// spoil changes one thing in a body, which may be right then or not.
func (m *maker) spoil(body *api.Term) {
	places := within(body)
	at := pick(&m.dice, places)
	switch m.under(5) {
	case 0:
		*at = own(*pick(&m.dice, places))
	case 1:
		at.Name = pick(&m.dice, []string{m.name(), pick(&m.dice, places).Name})
	case 2:
		other := pick(&m.dice, places)
		at.Kids, other.Kids = own(*other).Kids, own(*at).Kids
	case 3:
		*at = term(api.TermVar, m.name())
	default:
		around := []api.Term{term(api.TermFun, m.name(), own(*at)), term(api.TermApp, "", own(*at), term(api.TermUnit, "")), term(api.TermLet, m.name(), own(*at), own(*at)), term(api.TermDo, "f", own(*at)), term(api.TermOp, "print", own(*at))}
		*at = pick(&m.dice, around)
	}
}

// TestSpoilt spoils made up programs again and again: both ways answer the same, and what is inferred is right.
func TestSpoilt(t *testing.T) {
	m := maker{dice: 2, Program: read(t, declarations+"1")}
	fine, wrong := 0, 0
	for range 1500 {
		p := erased(m.program(1 + m.under(4)))
		for range 4 {
			before := own(p.Body)
			m.spoil(&p.Body)
			if _, err := scope.Check(p); err != api.OK || len(within(&p.Body)) > 400 {
				p.Body = before
				continue
			}
			if wantSecond(t, p) != api.OK {
				wrong++
				p.Body = before
				continue
			}
			fine++
			infers(t, source(p), p)
		}
	}
	if fine < 1000 || wrong < 1000 {
		t.Errorf("%d were fine, %d wrong", fine, wrong)
	}
}

// TestAnyTypes: what is inferred does not hang on what stands in a program of it already.
func TestAnyTypes(t *testing.T) {
	m := maker{dice: 3, Program: read(t, declarations+"1")}
	for range 300 {
		p := erased(m.program(4))
		want := all(infers(t, source(p), p).Body)
		for _, at := range within(&p.Body) {
			at.Type, at.Row, at.Own = m.typ(3), m.row(), m.typ(3)
		}
		if got := all(infers(t, source(p), p).Body); !slices.Equal(got, want) {
			t.Fatalf("%s: %q, not %q", source(p), got, want)
		}
	}
	if p, _, err := infer.Infer(api.Program{Body: api.Term{Kind: api.TermUnit, Type: api.Type{Kind: 77}, Row: row(-1, "", ""), Own: ref(ref(kind(9)))}}); err != api.OK || told(p.Body) != "unit in <console>" || p.Body.Own.Kind != 0 {
		t.Errorf("%v, %+v", err, p)
	}
}
