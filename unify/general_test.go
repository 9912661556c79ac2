package unify_test

import (
	"testing"

	"brocade/api"
	"brocade/subst"
	"brocade/types"
	"brocade/unify"
)

// found is what the variables of a substitution's types and rows have to be, for these to become others.
type found struct {
	types map[int]api.Type
	rows  map[int]api.Row
}

// meets tells whether what was found may be such that the one type becomes the other one.
func (f found) meets(t, want api.Type) bool {
	if t.Kind == api.TypVar {
		before, known := f.types[t.Var]
		f.types[t.Var] = want
		return !known || types.Same(before, want)
	}
	if t.Kind != want.Kind || t.Name != want.Name || len(t.Args) != len(want.Args) {
		return false
	}
	for i := range t.Args {
		if !f.meets(t.Args[i], want.Args[i]) {
			return false
		}
	}
	return t.Kind != api.TypFun || f.meetsRow(t.Row, want.Row)
}

func (f found) meetsRow(r, want api.Row) bool {
	for _, label := range r.Labels {
		less, there := types.Less(want, label)
		if !there {
			return false
		}
		want = less
	}
	if r.Var == 0 {
		return want.Var == 0 && len(want.Labels) == 0
	}
	before, known := f.rows[r.Var]
	f.rows[r.Var] = want
	return !known || types.SameRow(before, want)
}

// goesOn tells whether m goes on from s: what s makes of each variable up to most can become what m makes of that.
func goesOn(s subst.Subst, m model, most int) bool {
	f := found{map[int]api.Type{}, map[int]api.Row{}}
	for n := 1; n <= most; n++ {
		if !f.meets(s.Apply(variable(n)), m.apply(variable(n))) || !f.meetsRow(s.ApplyRow(row(n)), m.applyRow(row(n))) {
			return false
		}
	}
	return true
}

// like makes up a type of which the model makes the same as of the one that is handed in.
func (d *dice) like(m model, t api.Type) api.Type {
	is := m.apply(t)
	if n := 1 + d.under(6); d.under(3) > 0 && types.Same(m.types[n], is) {
		return variable(n)
	}
	if t.Kind == api.TypVar {
		if d.under(2) == 0 {
			return t
		}
		t = is
	}
	switch t.Kind {
	case api.TypRef:
		return ref(d.like(m, t.Args[0]))
	case api.TypFun:
		return fun(d.like(m, t.Args[0]), d.likeRow(m, t.Row), d.like(m, t.Args[1]))
	}
	return t
}

func (d *dice) likeRow(m model, r api.Row) api.Row {
	is := m.applyRow(r)
	n := 1 + d.under(6)
	said := m.rows[n]
	if d.under(4) == 0 || said.Var != is.Var {
		return r
	}
	for _, label := range said.Labels {
		less, there := types.Less(is, label)
		if !there {
			return r
		}
		is = less
	}
	return row(n, is.Labels...)
}

// general makes up what is said of variables from 1 to 6, with others in it alone.
func (d *dice) general() model {
	m, away := nothing(), subst.None()
	for n := 1; n <= 6; n++ {
		away = away.SetType(n, variable(10+n%3)).SetRow(n, row(10+n%2))
	}
	for n := 1; n <= 6; n++ {
		m.types[n] = away.Apply(d.made(1 + d.under(3)))
		m.rows[n] = away.ApplyRow(d.row())
		if d.under(2) == 0 && n > 1 {
			m.types[n], m.rows[n] = m.types[n-1], m.rows[n-1]
		}
	}
	return m
}

// TestMostGeneral makes up what makes pairs of types the same: these are made the same then, and that goes on from
// what is answered; the second pair goes on from there.
func TestMostGeneral(t *testing.T) {
	luck, fresh := dice(31), 0
	for range 6000 {
		m := luck.general()
		s, next := subst.None(), 20
		for range 3 {
			a := luck.made(5)
			b := luck.like(m, a)
			got, after, err := unify.Types(s, a, b, next)
			if err != api.OK || !types.Same(got.Apply(a), got.Apply(b)) || !goesOn(got, m, 12) {
				t.Fatalf("%s: %s and %s: %v, %s, not %s", told(s), types.Text(a), types.Text(b), err, told(got), told(m.handed()))
			}
			wantOnce(t, got)
			fresh += after - next
			s, next = got, after
		}
	}
	if fresh < 200 {
		t.Errorf("only %d fresh variables", fresh)
	}
}

// wantOnce holds that nothing is said of variables that stand in what is said.
func wantOnce(t *testing.T, s subst.Subst) {
	t.Helper()
	if !says(s.Then(s), s) {
		t.Fatalf("twice is not once: %s", told(s))
	}
	kinds, _ := s.Vars()
	for _, n := range kinds {
		if said, _ := s.Type(n); !types.Right(said) || unify.Large(said) {
			t.Fatalf("%d is %s", n, types.Text(said))
		}
	}
}

// allRows are all rows of up to so many labels D and E, closed and with variables up to most.
func allRows(count, most int) []api.Row {
	var out []api.Row
	for n := 0; n <= most; n++ {
		for first := 0; first <= count; first++ {
			for second := 0; first+second <= count; second++ {
				r := row(n)
				for range first {
					r = types.Add(r, "D")
				}
				for range second {
					r = types.Add(r, "E")
				}
				out = append(out, r)
			}
		}
	}
	return out
}

// TestAllRows has all pairs of small rows: there is an error just if no closed rows in the stead of their variables
// make them the same, and all that do so go on from the answer; both ways round.
func TestAllRows(t *testing.T) {
	closed, rows := allRows(4, 0), allRows(3, 2)
	for _, a := range rows {
		for _, b := range rows {
			s, next, err := unify.Rows(subst.None(), a, b, 9)
			if err == api.OK && !types.SameRow(s.ApplyRow(a), s.ApplyRow(b)) {
				t.Fatalf("%v and %v are unlike: %s", a, b, told(s))
			}
			if err != api.OK && (err != api.ErrType || told(s) != "" || next != 9) {
				t.Fatalf("%v and %v: %v, %d, %s", a, b, err, next, told(s))
			}
			if _, _, back := unify.Rows(subst.None(), b, a, 9); back != err {
				t.Fatalf("%v and %v: %v, %v", a, b, err, back)
			}
			makes := 0
			for _, one := range closed {
				for _, two := range closed {
					m := model{nil, map[int]api.Row{1: one, 2: two}}
					if !types.SameRow(m.applyRow(a), m.applyRow(b)) {
						continue
					}
					if makes++; !goesOn(s, m, 2) {
						t.Fatalf("%v and %v: %v, %s: what %s makes the same does not go on from it", a, b, err, told(s), told(m.handed()))
					}
				}
			}
			if (makes > 0) != (err == api.OK) {
				t.Fatalf("%v and %v: %v, and %d make them the same", a, b, err, makes)
			}
		}
	}
}

// smallTypes are all types of up to so many pieces, of some leaves, with functions by some row.
func smallTypes(count int, happens api.Row, leaves ...api.Type) []api.Type {
	bySize := [][]api.Type{nil, leaves}
	all := append([]api.Type(nil), leaves...)
	for size := 2; size <= count; size++ {
		var out []api.Type
		for _, held := range bySize[size-1] {
			out = append(out, ref(held))
		}
		for left := 1; left < size-1; left++ {
			for _, takes := range bySize[left] {
				for _, answers := range bySize[size-1-left] {
					out = append(out, fun(takes, happens, answers))
				}
			}
		}
		bySize = append(bySize, out)
		all = append(all, out...)
	}
	return all
}

// TestAllTypes has all pairs of small types: an error stands just where no small types without variables make them the same.
func TestAllTypes(t *testing.T) {
	closed := smallTypes(4, row(0), kind(api.TypInt), kind(api.TypBool))
	small := append(smallTypes(3, row(0), kind(api.TypInt), variable(1), variable(2)), smallTypes(3, row(1), variable(1), variable(2))...)
	var all []model
	for _, one := range closed {
		for _, two := range closed {
			all = append(all, model{map[int]api.Type{1: one, 2: two}, map[int]api.Row{1: row(0)}})
		}
	}
	for _, a := range small {
		for _, b := range small {
			s, _, err := unify.Types(subst.None(), a, b, 9)
			makes := 0
			for _, m := range all {
				if types.Same(m.apply(a), m.apply(b)) {
					if makes++; !goesOn(s, m, 2) {
						t.Fatalf("%s and %s: %s, which %s does not go on from", types.Text(a), types.Text(b), told(s), told(m.handed()))
					}
				}
			}
			if (makes > 0) != (err == api.OK) || err == api.OK && !types.Same(s.Apply(a), s.Apply(b)) {
				t.Fatalf("%s and %s: %v, %s, and %d make them the same", types.Text(a), types.Text(b), err, told(s), makes)
			}
		}
	}
}
