package infer

import (
	"slices"

	"brocade/api"
	"brocade/scheme"
	"brocade/subst"
	"brocade/types"
	"brocade/unify"
)

// mostLabels is more labels than a list has of which something is promised (a million items).
const mostLabels = 1 << 20

// variables are the variables that were taken so far, and what is said of them. No type variable has the number
// of a row variable. What is said may have variables in it of which something is said later: that is put in where
// it is asked for, so that to say something costs the same, however many variables there are.
type variables struct {
	types  map[int]api.Type
	rows   map[int]api.Row
	level  int   // how many types are being found that are to be generalized, one within the other
	levels []int // of each number the level at which it was taken, or at which it came to stand in what is known
}

func newVariables() *variables {
	return &variables{types: map[int]api.Type{}, rows: map[int]api.Row{}, levels: []int{0}} // no variable has the number 0
}

// next is the number that is not taken yet.
func (v *variables) next() int { return len(v.levels) }

// upTo takes all numbers below next.
func (v *variables) upTo(next int) {
	for v.next() < next {
		v.levels = append(v.levels, v.level)
	}
}

// fresh takes a number.
func (v *variables) fresh() int {
	n := v.next()
	v.upTo(n + 1)
	return n
}

func (v *variables) freshType() api.Type { return api.Type{Kind: api.TypVar, Var: v.fresh()} }

func (v *variables) freshRow() api.Row { return api.Row{Var: v.fresh()} }

// instance is a scheme's type with fresh variables in the stead of the bound ones.
func (v *variables) instance(s scheme.Scheme) api.Type {
	t, next := scheme.Fresh(s, v.next())
	v.upTo(next)
	return t
}

// general is a type, in which all is put that is said, generalized over all that is known. Nobody has to go through
// that: no variable of a higher level is free in it.
func (v *variables) general(t api.Type) scheme.Scheme {
	kinds, rows := types.Vars(t)
	free := func(n int) bool { return v.levels[n] <= v.level }
	return scheme.Scheme{Types: slices.DeleteFunc(kinds, free), Rows: slices.DeleteFunc(rows, free), Type: t}
}

// same makes two types the same.
func (v *variables) same(a, b api.Type) api.Errno {
	a, err := v.whole(a)
	if err != api.OK {
		return err
	}
	b, err = v.whole(b)
	if err != api.OK {
		return err
	}
	return v.say(unify.Types(subst.None(), a, b, v.next()))
}

// has makes a row have a label.
func (v *variables) has(r api.Row, label string) api.Errno {
	r, err := v.wholeRow(r)
	if err != api.OK || slices.Contains(r.Labels, label) {
		return err
	}
	asked := api.Row{Labels: []string{label}, Var: v.fresh()}
	return v.say(unify.Rows(subst.None(), api.Row{Var: r.Var}, asked, v.next()))
}

// say says of variables what was found to make types, or rows, the same.
func (v *variables) say(found subst.Subst, next int, err api.Errno) api.Errno {
	v.upTo(next)
	kinds, rows := found.Vars()
	for _, n := range kinds {
		v.types[n], _ = found.Type(n)
		kindsWithin, rowsWithin := types.Vars(v.types[n])
		v.lower(v.levels[n], kindsWithin...)
		v.lower(v.levels[n], rowsWithin...)
	}
	for _, n := range rows {
		v.rows[n], _ = found.Row(n)
		v.lower(v.levels[n], v.rows[n].Var)
	}
	return err
}

// lower lets variables stand in what a variable of some level stands in.
func (v *variables) lower(level int, numbers ...int) {
	for _, n := range numbers {
		v.levels[n] = min(v.levels[n], level)
	}
}

// whole is a type, in which all is put that is said.
func (v *variables) whole(t api.Type) (api.Type, api.Errno) {
	room := api.MaxPieces
	t = v.put(t, &room)
	if room < 0 || unify.Large(t) {
		return api.Type{}, api.ErrLimit
	}
	return t, api.OK
}

// wholeRow is a row, in which all is put that is said.
func (v *variables) wholeRow(r api.Row) (api.Row, api.Errno) {
	room := 0
	r = v.putRow(r, &room)
	if room < 0 {
		return api.Row{}, api.ErrLimit
	}
	return r, api.OK
}

// put puts into a type all that is said, until there is no more room for its pieces.
func (v *variables) put(t api.Type, room *int) api.Type {
	if *room--; *room < 0 {
		return t
	}
	t = v.latest(t)
	t.Row = v.putRow(t.Row, room)
	t.Args = slices.Clone(t.Args)
	for i := range t.Args {
		t.Args[i] = v.put(t.Args[i], room)
	}
	return t
}

// latest is what a type variable stands for, from variable to variable; who comes this way again has a shorter one.
func (v *variables) latest(t api.Type) api.Type {
	out := t
	for out.Kind == api.TypVar {
		said, known := v.types[out.Var]
		if !known {
			break
		}
		out = said
	}
	if t.Kind == api.TypVar && out.Var != t.Var {
		v.types[t.Var] = out
	}
	return out
}

// putRow puts into a row all that is said; there is no room for one with too many labels.
func (v *variables) putRow(r api.Row, room *int) api.Row {
	said := v.latestRow(r.Var)
	out := types.Sorted(api.Row{Labels: slices.Concat(r.Labels, said.Labels), Var: said.Var})
	if len(out.Labels) > mostLabels {
		*room = -1
	}
	return out
}

// latestRow is what a row variable stands for, likewise.
func (v *variables) latestRow(n int) api.Row {
	out := api.Row{Var: n}
	for hops := 0; ; hops++ {
		said, known := v.rows[out.Var]
		if !known {
			if hops > 1 {
				v.rows[n] = out
			}
			return out
		}
		out = api.Row{Labels: slices.Concat(out.Labels, said.Labels), Var: said.Var}
	}
}
