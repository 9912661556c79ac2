package scope_test

import (
	"slices"
	"strconv"
	"testing"

	"brocade/api"
	"brocade/scope"
)

// dice are numbers that are the same in each run.
type dice uint32

func (d *dice) under(n int) int {
	*d = *d*1664525 + 1013904223
	return int(uint32(*d)>>8) % n
}

func pick[A any](d *dice, l []A) A { return l[d.under(len(l))] }

// maker makes up programs.
type maker struct {
	dice
	api.Program
	cons  []api.ConSig
	count int
}

// declare makes up declarations that are right.
func (m *maker) declare() {
	m.Program, m.cons = api.Program{}, nil
	for range m.under(4) {
		m.Datas = append(m.Datas, api.Data{Name: m.name("D")})
	}
	for i := range m.Datas {
		for range m.under(4) {
			made := api.ConSig{Name: m.name("C")}
			for range m.under(4) {
				made.Fields = append(made.Fields, m.declType())
			}
			m.Datas[i].Cons = append(m.Datas[i].Cons, made)
			m.cons = append(m.cons, made)
		}
	}
	for range m.under(4) {
		effect := api.Effect{Name: m.name("E")}
		for range m.under(4) {
			effect.Ops = append(effect.Ops, op(m.name("o"), m.declType(), m.declType()))
		}
		m.Effects = append(m.Effects, effect)
	}
}

// name is a name that there was not yet.
func (m *maker) name(begin string) string {
	m.count++
	return begin + strconv.Itoa(m.count)
}

func (m *maker) declType() api.Type {
	if len(m.Datas) > 0 && m.under(2) == 0 {
		return api.Type{Kind: api.TypData, Name: pick(&m.dice, m.Datas).Name}
	}
	return api.Type{Kind: api.TypInt + m.under(3)}
}

func (m *maker) binder() string { return pick(&m.dice, []string{"x", "y", "z", "f", "_", "return"}) }

// binders are names of which none but `_` stands there twice.
func (m *maker) binders(count int) []string {
	var out []string
	for len(out) < count {
		if name := m.binder(); name == "_" || !slices.Contains(out, name) {
			out = append(out, name)
		}
	}
	return out
}

// term makes up a term that is right below some names, with an At of its own.
func (m *maker) term(size int, bound ...string) api.Term {
	t := m.bare(size, bound)
	m.count++
	t.At = m.count * 7919 % 100003
	return t
}

func (m *maker) bare(size int, bound []string) api.Term {
	kid := func(more ...string) api.Term { return m.term(size-1, and(bound, more...)...) }
	if size <= 0 {
		return m.leaf(bound)
	}
	a, b := m.binder(), m.binder()
	switch m.under(11) {
	case 0:
		return api.Term{Kind: api.TermFun, Name: a, Kids: []api.Term{kid(a)}}
	case 1:
		return api.Term{Kind: api.TermApp, Kids: []api.Term{kid(), kid()}}
	case 2:
		return api.Term{Kind: api.TermLet, Name: a, Kids: []api.Term{kid(), kid(a)}}
	case 3:
		return api.Term{Kind: api.TermRec, Name: a, Param: b, Kids: []api.Term{kid(a, b), kid(a)}}
	case 4:
		return api.Term{Kind: api.TermIf, Kids: []api.Term{kid(), kid(), kid()}}
	case 5:
		return api.Term{Kind: api.TermOp, Name: pick(&m.dice, []string{"+", "-", "*", "/", "<", "=", ":="}), Kids: []api.Term{kid(), kid()}}
	case 6:
		return api.Term{Kind: api.TermOp, Name: pick(&m.dice, []string{"print", "ref", "!"}), Kids: []api.Term{kid()}}
	case 7:
		return m.construct(kid, bound)
	case 8:
		return m.match(kid, bound)
	case 9:
		return m.do(kid, bound)
	}
	return m.handle(kid, bound)
}

func (m *maker) leaf(bound []string) api.Term {
	names := slices.DeleteFunc(slices.Clone(bound), func(name string) bool { return name == "_" })
	if len(names) > 0 && m.under(4) > 0 {
		return api.Term{Kind: api.TermVar, Name: pick(&m.dice, names)}
	}
	switch m.under(4) {
	case 0:
		return api.Term{Kind: api.TermInt, N: m.under(9)}
	case 1:
		return api.Term{Kind: api.TermBool, N: m.under(2)}
	case 2:
		return api.Term{Kind: api.TermOp, Name: "read"}
	}
	return api.Term{Kind: api.TermUnit}
}

func (m *maker) construct(kid func(...string) api.Term, bound []string) api.Term {
	if len(m.cons) == 0 {
		return m.leaf(bound)
	}
	con := pick(&m.dice, m.cons)
	t := api.Term{Kind: api.TermCon, Name: con.Name}
	for range con.Fields {
		t.Kids = append(t.Kids, kid())
	}
	return t
}

func (m *maker) match(kid func(...string) api.Term, bound []string) api.Term {
	datas := slices.DeleteFunc(slices.Clone(m.Datas), func(d api.Data) bool { return len(d.Cons) == 0 })
	if len(datas) == 0 {
		return m.leaf(bound)
	}
	t := api.Term{Kind: api.TermMatch, Kids: []api.Term{kid()}}
	for _, con := range pick(&m.dice, datas).Cons {
		names := m.binders(len(con.Fields))
		t.Arms = append(t.Arms, way(kid(names...), con.Name, names...))
	}
	return t
}

func (m *maker) do(kid func(...string) api.Term, bound []string) api.Term {
	var ops []api.OpSig
	for _, e := range m.Effects {
		ops = append(ops, e.Ops...)
	}
	if len(ops) == 0 {
		return m.leaf(bound)
	}
	return api.Term{Kind: api.TermDo, Name: pick(&m.dice, ops).Name, Kids: []api.Term{kid()}}
}

func (m *maker) handle(kid func(...string) api.Term, bound []string) api.Term {
	if len(m.Effects) == 0 {
		return m.leaf(bound)
	}
	effect, result := pick(&m.dice, m.Effects), m.binder()
	t := api.Term{Kind: api.TermHandle, Name: effect.Name, Kids: []api.Term{kid()}}
	t.Arms = append(t.Arms, way(kid(result), "return", result))
	for _, o := range effect.Ops {
		names := m.binders(2)
		for names[0] == names[1] {
			names = m.binders(2)
		}
		t.Arms = append(t.Arms, way(kid(names...), o.Name, names...))
	}
	return t
}

// copied is a term with lists of its own.
func copied(t api.Term) api.Term {
	t.Kids, t.Arms = slices.Clone(t.Kids), slices.Clone(t.Arms)
	for i := range t.Arms {
		t.Arms[i].Vars = slices.Clone(t.Arms[i].Vars)
	}
	for _, place := range places(&t) {
		*place = copied(*place)
	}
	return t
}

// within are all places of a term, its own first.
func within(t *api.Term) []*api.Term {
	out := []*api.Term{t}
	for _, place := range places(t) {
		out = append(out, within(place)...)
	}
	return out
}

// spoil changes one thing in a term, which may be right then or not.
func (m *maker) spoil(body *api.Term) {
	all := within(body)
	at := pick(&m.dice, all)
	if armed := slices.DeleteFunc(slices.Clone(all), func(t *api.Term) bool { return len(t.Arms) == 0 }); len(armed) > 0 && m.under(4) == 0 {
		m.spoilArm(pick(&m.dice, armed).Arms)
		return
	}
	switch m.under(8) {
	case 0:
		at.Kind = m.under(17) - 1
	case 1:
		at.Name = pick(&m.dice, []string{"", "x", "y", "z", "f", "_", "+", "read", "ref", "w", pick(&m.dice, all).Name})
	case 2:
		at.Param = m.binder()
	case 3:
		at.Kids = append(at.Kids[:len(at.Kids):len(at.Kids)], m.term(0))
	case 4:
		at.Kids = at.Kids[:len(at.Kids)/2]
	case 5:
		at.Arms = at.Arms[:len(at.Arms)/2]
	case 6:
		at.Arms = append(at.Arms[:len(at.Arms):len(at.Arms)], copied(*pick(&m.dice, all)).Arms...)
	default:
		*at = copied(*pick(&m.dice, all))
		at.At++
	}
}

func (m *maker) spoilArm(arms []api.Arm) {
	at := &arms[m.under(len(arms))]
	switch m.under(4) {
	case 0:
		*at = pick(&m.dice, arms)
	case 1:
		at.Name = pick(&m.dice, []string{"return", "", "x", pick(&m.dice, arms).Name})
	case 2:
		at.Vars = append(at.Vars[:len(at.Vars):len(at.Vars)], m.binder())
	default:
		if len(at.Vars) > 0 {
			at.Vars[m.under(len(at.Vars))] = m.binder()
		}
	}
}

// TestMade has made up programs, with nothing wrong, and with more and more that is.
func TestMade(t *testing.T) {
	m := maker{dice: 1}
	fine, wrong := 0, 0
	for range 1500 {
		m.declare()
		m.Body = m.term(1 + m.under(5))
		wantCheck(t, m.Program, m.Program, 0, api.OK)
		for range 6 {
			if len(within(&m.Body)) > 3000 {
				break
			}
			m.spoil(&m.Body)
			wantSlow(t, m.Program)
			if _, err := scope.Check(m.Program); err == api.OK {
				fine++
			} else {
				wrong++
			}
		}
	}
	if fine < 500 || wrong < 500 {
		t.Errorf("%d spoilt programs were fine, %d wrong", fine, wrong)
	}
}
