package scheme

import (
	"slices"

	"brocade/api"
	"brocade/subst"
	"brocade/types"
)

// Instance tells whether a substitution that says something of bound variables alone makes a type of a scheme's (H3).
func Instance(s Scheme, t api.Type) bool {
	m := matcher{Scheme: s, kinds: setOf(s.Types), rows: setOf(s.Rows), said: subst.None(), met: map[places]struct{}{}}
	return m.becomes(t)
}

// matcher finds what has to be said of the bound variables of a scheme, so that its type becomes another one.
type matcher struct {
	Scheme
	kinds, rows set // the bound variables
	said        subst.Subst
	todo        []lists
	met         map[places]struct{}
}

// lists is some Args, and what these have to become.
type lists struct{ from, to []api.Type }

// places is where two lists lie, the first one of so many Args.
type places struct {
	from, to *api.Type
	size     int
}

// becomes tells whether the scheme's type can become t. It goes list by list, so that both may be as deep as they like.
func (m *matcher) becomes(t api.Type) bool {
	can := m.part(m.Type, t)
	for can && len(m.todo) > 0 {
		next := m.todo[len(m.todo)-1]
		m.todo = m.todo[:len(m.todo)-1]
		can = slices.EqualFunc(next.from, next.to, m.part)
	}
	return can
}

// part tells whether a part of the scheme's type can become another type, but that their Args are still to do.
func (m *matcher) part(from, to api.Type) bool {
	if from.Kind == api.TypVar && m.kinds.has(from.Var) {
		return m.bound(from.Var, to)
	}
	m.later(from.Args, to.Args)
	return from.Kind == to.Kind && from.Name == to.Name && from.Var == to.Var &&
		len(from.Args) == len(to.Args) && m.row(from.Row, to.Row)
}

// bound says a type of a bound variable, and tells whether no other one was said of it.
func (m *matcher) bound(n int, to api.Type) bool {
	said, known := m.said.Type(n)
	if !known {
		m.said = m.said.SetType(n, to)
	}
	return !known || types.Same(said, to)
}

// row tells whether a row of the scheme's type can become another one.
func (m *matcher) row(from, to api.Row) bool {
	from = types.Sorted(from)
	if _, known := m.said.Row(from.Var); !known && m.rows.has(from.Var) {
		m.said = m.said.SetRow(from.Var, api.Row{Labels: more(to.Labels, from.Labels), Var: to.Var})
	}
	return types.SameRow(m.said.ApplyRow(from), to)
}

// more is the labels that a list has more than another one; both are in order.
func more(labels, others []string) []string {
	var out []string
	for _, label := range labels {
		if len(others) > 0 && label == others[0] {
			others = others[1:]
		} else {
			out = append(out, label)
		}
	}
	return out
}

// later puts down two lists of Args, unless they were held against each other before: so those that stand in
// many places, or within themselves, are so once.
func (m *matcher) later(from, to []api.Type) {
	if len(from) == 0 || len(to) == 0 {
		return
	}
	at := places{&from[0], &to[0], len(from)}
	if _, known := m.met[at]; !known {
		m.met[at] = struct{}{}
		m.todo = append(m.todo, lists{from, to})
	}
}
