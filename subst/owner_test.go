package subst_test

import (
	"testing"

	"brocade/api"
	"brocade/subst"
)

// overType writes over all that a type has, and what lies behind its lists.
func overType(t api.Type) {
	overRow(t.Row)
	for _, arg := range t.Args {
		overType(arg)
	}
	full := t.Args[:cap(t.Args)]
	for i := range full {
		full[i] = api.Type{Kind: api.TypData, Name: "over", Row: row(77, "over")}
	}
}

func overRow(r api.Row) {
	full := r.Labels[:cap(r.Labels)]
	for i := range full {
		full[i] = "over"
	}
}

// TestOwnersSet: what was handed in may be written over, and what is answered, too (R1).
func TestOwnersSet(t *testing.T) {
	luck := dice(8)
	for range 500 {
		s, m := subst.None(), nothing()
		for range 8 {
			n, said, happens := 1+luck.under(9), luck.made(4), luck.row()
			m = m.setType(n, bare(said)).setRow(n, bareRow(happens))
			s = s.SetType(n, said).SetRow(n, happens)
			overType(said)
			overRow(happens)
			wantSays(t, s, m)
		}
		for n := -1; n <= 10; n++ {
			said, _ := s.Type(n)
			happens, _ := s.Row(n)
			overType(said)
			overRow(happens)
		}
		wantSays(t, s, m)
		kinds, rows := s.Vars()
		for i := range kinds {
			kinds[i] = -7
		}
		_ = append(kinds, -7)
		wantKinds, wantRows := m.vars()
		wantNumbers(t, "row variables", rows, wantRows)
		kinds, _ = s.Vars()
		wantNumbers(t, "type variables", kinds, wantKinds)
	}
}

// TestOwnersApply: what is handed to Apply, ApplyRow and Then stays, and their answers are nobody else's.
func TestOwnersApply(t *testing.T) {
	luck := dice(9)
	for range 1000 {
		s, m := luck.subst(3)
		u, more := luck.subst(3)
		x, r := luck.made(5), luck.row()
		keptX, keptR := bare(x), bareRow(r)
		both := s.Then(u)
		for range 2 {
			applied, happens := s.Apply(x), s.ApplyRow(r)
			wantType(t, "applied", applied, m.apply(keptX))
			wantRow(t, "applied", happens, m.applyRow(keptR))
			overType(applied)
			overRow(happens)
			wantType(t, "handed in", x, keptX)
			wantRow(t, "handed in", r, keptR)
			for n := range 10 {
				said, _ := both.Type(n)
				overType(said)
				overType(both.Apply(ref(variable(n))))
				overRow(both.ApplyRow(row(n)))
			}
			wantSays(t, s, m)
			wantSays(t, u, more)
			wantSays(t, both, m.then(more))
		}
		overType(x)
		overRow(r)
		wantSays(t, s, m)
		wantSays(t, both, m.then(more))
	}
}

// TestOwnersBehind: what lies behind a row's labels stays.
func TestOwnersBehind(t *testing.T) {
	room := []string{"E", "F", "behind", "behind"}
	args := []api.Type{variable(1), variable(2), data("behind")}
	s := subst.None().SetRow(1, row(2, "D", "G")).SetRow(3, api.Row{Labels: room[:2], Var: 1}).SetType(1, kind(api.TypInt))
	wantRow(t, "room", s.ApplyRow(api.Row{Labels: room[:2], Var: 1}), row(2, "D", "E", "F", "G"))
	wantRow(t, "room", s.ApplyRow(api.Row{Labels: room[:2], Var: 3}), row(1, "E", "E", "F", "F"))
	wantType(t, "room", s.Apply(api.Type{Kind: api.TypFun, Args: args[:2], Row: api.Row{Labels: room[:1], Var: 3}}), fun(kind(api.TypInt), row(1, "E", "E", "F"), variable(2)))
	wantRow(t, "room", row(0, room...), row(0, "E", "F", "behind", "behind"))
	wantType(t, "args", args[0], variable(1))
	wantType(t, "args", args[2], data("behind"))
}

// TestListsApart: no two lists of one answer are one, though lists of what was handed in were.
func TestListsApart(t *testing.T) {
	twice := fun(variable(1), row(1, "E"), ref(variable(1)))
	s := subst.None().SetType(1, fun(twice, row(1, "F"), twice)).SetRow(1, row(0, "E")).SetType(2, kind(api.TypInt))
	said, _ := s.Type(1)
	for _, x := range []api.Type{said, s.Apply(variable(1)), s.Apply(fun(variable(1), row(2, "E"), variable(1))), s.Apply(fun(twice, row(1), twice)), s.Apply(fun(said, row(1), said)), s.Then(s).Apply(fun(twice, row(1), variable(1)))} {
		firsts, labels := map[*api.Type]int{}, map[*string]int{}
		countLists(x, firsts, labels)
		for _, count := range firsts {
			if count > 1 {
				t.Fatalf("a list of Args stands %d times in %+v", count, x)
			}
		}
		for _, count := range labels {
			if count > 1 {
				t.Fatalf("a list of labels stands %d times in %+v", count, x)
			}
		}
	}
}

// countLists counts in how many places the lists of a type stand.
func countLists(t api.Type, firsts map[*api.Type]int, labels map[*string]int) {
	if len(t.Row.Labels) > 0 {
		labels[&t.Row.Labels[0]]++
	}
	if len(t.Args) > 0 {
		firsts[&t.Args[0]]++
	}
	for _, arg := range t.Args {
		countLists(arg, firsts, labels)
	}
}
