package scheme_test

import (
	"brocade/api"
	"brocade/scheme"
	"brocade/subst"
	"brocade/types"
)

// dice are numbers that are the same in each run.
type dice uint32

func (d *dice) under(n int) int {
	*d = *d*1664525 + 1013904223
	return int(uint32(*d)>>8) % n
}

func (d *dice) row() api.Row {
	var r api.Row
	for range d.under(4) {
		r = types.Add(r, []string{"D", "E", "E", "console"}[d.under(4)])
	}
	if d.under(4) > 0 {
		r.Var = 1 + d.under(6)
	}
	return r
}

// made makes up a right type that is at most so deep.
func (d *dice) made(deep int) api.Type {
	switch least := d.under(8); {
	case deep > 1 && least < 4:
		return fun(d.made(deep-1), d.row(), d.made(deep-1))
	case deep > 1 && least < 6:
		return ref(d.made(deep - 1))
	case least%4 != 0:
		return variable(1 + d.under(6))
	}
	if n := 1 + d.under(4); n != api.TypData {
		return kind(n)
	}
	return data("D")
}

// some is some numbers from 1 to 6, each once, in any order.
func (d *dice) some() []int {
	var out []int
	left := []int{1, 2, 3, 4, 5, 6}
	for range d.under(len(left) + 1) {
		i := d.under(len(left))
		out = append(out, left[i])
		left = append(left[:i], left[i+1:]...)
	}
	return out
}

// scheme makes up a scheme of which some bound variables may stand nowhere.
func (d *dice) scheme(deep int) scheme.Scheme {
	return scheme.Scheme{Types: d.some(), Rows: d.some(), Type: d.made(deep)}
}

// subst makes up what is said of some variables, no other ones.
func (d *dice) subst(kinds, rows []int) subst.Subst {
	s := subst.None()
	for _, n := range kinds {
		s = s.SetType(n, d.made(1+d.under(3)))
	}
	for _, n := range rows {
		s = s.SetRow(n, d.row())
	}
	return s
}
