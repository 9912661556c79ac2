package subst_test

import (
	"sort"

	"brocade/api"
	"brocade/subst"
	"brocade/types"
)

func kind(kind int) api.Type { return api.Type{Kind: kind} }

func variable(n int) api.Type { return api.Type{Kind: api.TypVar, Var: n} }

func data(name string) api.Type { return api.Type{Kind: api.TypData, Name: name} }

func ref(held api.Type) api.Type { return api.Type{Kind: api.TypRef, Args: []api.Type{held}} }

func fun(takes api.Type, row api.Row, answers api.Type) api.Type {
	return api.Type{Kind: api.TypFun, Args: []api.Type{takes, answers}, Row: row}
}

func row(number int, labels ...string) api.Row { return api.Row{Labels: labels, Var: number} }

// dice are numbers that are the same in each run.
type dice uint32

func (d *dice) under(n int) int {
	*d = *d*1664525 + 1013904223
	return int(uint32(*d)>>8) % n
}

func (d *dice) row() api.Row {
	var r api.Row
	for range d.under(4) {
		r = types.Add(r, []string{"D", "E", "F", "console", "E1"}[d.under(5)])
	}
	if d.under(3) > 0 {
		r.Var = 1 + d.under(9)
	}
	return r
}

// made makes up a right type that is at most so deep.
func (d *dice) made(deep int) api.Type {
	switch least := d.under(8); {
	case deep > 1 && least < 4:
		return fun(d.made(deep-1), d.row(), d.made(deep-1))
	case deep > 1 && least < 6:
		return ref(d.made(deep - 1))
	case least%3 != 0:
		return variable(1 + d.under(9))
	}
	if n := 1 + d.under(4); n != api.TypData {
		return kind(n)
	}
	return data("D")
}

// model is what a substitution has to be: all that it says, in maps alone.
type model struct {
	types map[int]api.Type
	rows  map[int]api.Row
}

func nothing() model { return model{map[int]api.Type{}, map[int]api.Row{}} }

func (m model) copy() model {
	out := nothing()
	for n, t := range m.types {
		out.types[n] = t
	}
	for n, r := range m.rows {
		out.rows[n] = r
	}
	return out
}

func (m model) setType(n int, t api.Type) model {
	out := m.copy()
	out.types[n] = t
	return out
}

func (m model) setRow(n int, r api.Row) model {
	out := m.copy()
	out.rows[n] = r
	return out
}

func (m model) apply(t api.Type) api.Type {
	if said, known := m.types[t.Var]; known && t.Kind == api.TypVar {
		return said
	}
	out := api.Type{Kind: t.Kind, Name: t.Name, Var: t.Var, Row: m.applyRow(t.Row)}
	for _, arg := range t.Args {
		out.Args = append(out.Args, m.apply(arg))
	}
	return out
}

func (m model) applyRow(r api.Row) api.Row {
	said, known := m.rows[r.Var]
	if !known || r.Var == 0 {
		return r
	}
	labels := append(append([]string(nil), r.Labels...), said.Labels...)
	sort.Strings(labels)
	return api.Row{Labels: labels, Var: said.Var}
}

func (m model) then(t model) model {
	out := t.copy()
	for n, said := range m.types {
		out.types[n] = t.apply(said)
	}
	for n, said := range m.rows {
		out.rows[n] = t.applyRow(said)
	}
	return out
}

func (m model) vars() ([]int, []int) {
	var kinds, rows []int
	for n := range m.types {
		kinds = append(kinds, n)
	}
	for n := range m.rows {
		rows = append(rows, n)
	}
	sort.Ints(kinds)
	sort.Ints(rows)
	return kinds, rows
}

// made is a substitution that says something of some variables, and its model.
func (d *dice) subst(deep int) (subst.Subst, model) {
	s, m := subst.None(), nothing()
	for range d.under(7) {
		n, t := 1+d.under(9), d.made(1+d.under(deep))
		s, m = s.SetType(n, t), m.setType(n, t)
	}
	for range d.under(7) {
		n, r := 1+d.under(9), d.row()
		s, m = s.SetRow(n, r), m.setRow(n, r)
	}
	return s, m
}
