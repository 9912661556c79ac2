package subst_test

import (
	"testing"

	"brocade/api"
	"brocade/subst"
	"brocade/types"
)

func TestThenByHand(t *testing.T) {
	whole, truth := kind(api.TypInt), kind(api.TypBool)
	s := subst.None().
		SetType(1, fun(variable(2), row(1, "E"), variable(1))).SetType(3, variable(4)).SetType(5, whole).SetType(6, variable(6)).
		SetRow(1, row(2, "E")).SetRow(3, row(3)).SetRow(4, row(0, "F"))
	u := subst.None().
		SetType(1, truth).SetType(2, ref(variable(2))).SetType(4, variable(3)).SetType(5, truth).SetType(7, variable(5)).
		SetRow(1, row(0, "D")).SetRow(2, row(1, "F")).SetRow(4, row(9)).SetRow(8, row(4))
	want := nothing().
		setType(1, fun(ref(variable(2)), row(0, "D", "E"), truth)).setType(3, variable(3)).setType(5, whole).setType(6, variable(6)).
		setType(2, ref(variable(2))).setType(4, variable(3)).setType(7, variable(5)).
		setRow(1, row(1, "E", "F")).setRow(3, row(3)).setRow(4, row(0, "F")).
		setRow(2, row(1, "F")).setRow(8, row(4))
	wantSays(t, s.Then(u), want)
	wantSays(t, s.Then(subst.None()), nothing().
		setType(1, fun(variable(2), row(1, "E"), variable(1))).setType(3, variable(4)).setType(5, whole).setType(6, variable(6)).
		setRow(1, row(2, "E")).setRow(3, row(3)).setRow(4, row(0, "F")))
	wantSays(t, subst.None().Then(s), nothing().
		setType(1, fun(variable(2), row(1, "E"), variable(1))).setType(3, variable(4)).setType(5, whole).setType(6, variable(6)).
		setRow(1, row(2, "E")).setRow(3, row(3)).setRow(4, row(0, "F")))
}

// TestThenMade has made up substitutions, by threes; Apply of Then is Apply of the one, and then of the other one.
func TestThenMade(t *testing.T) {
	luck := dice(5)
	for range 1500 {
		one, first := luck.subst(3)
		two, second := luck.subst(3)
		three, third := luck.subst(2)
		both, all := one.Then(two), one.Then(two).Then(three)
		wantSays(t, both, first.then(second))
		wantSays(t, all, first.then(second).then(third))
		wantSays(t, one.Then(two.Then(three)), first.then(second.then(third)))
		for range 5 {
			x, r := luck.made(5), luck.row()
			wantType(t, types.Text(x), both.Apply(x), two.Apply(one.Apply(x)))
			wantType(t, types.Text(x), all.Apply(x), three.Apply(two.Apply(one.Apply(x))))
			wantRow(t, r, both.ApplyRow(r), two.ApplyRow(one.ApplyRow(r)))
			wantRow(t, r, all.ApplyRow(r), three.ApplyRow(two.ApplyRow(one.ApplyRow(r))))
		}
		wantSays(t, one, first)
		wantSays(t, two, second)
	}
}

// TestThenOn says more of what Then answered, as of any other substitution.
func TestThenOn(t *testing.T) {
	luck := dice(6)
	s, m := subst.None(), nothing()
	for range 600 {
		next, more := luck.subst(2)
		before, was := s, m
		switch n := 1 + luck.under(11); luck.under(4) {
		case 0:
			said := luck.made(2)
			s, m = s.SetType(n, said), m.setType(n, said)
		case 1:
			happens := luck.row()
			s, m = s.SetRow(n, happens), m.setRow(n, happens)
		case 2:
			s, m = s.Then(next), m.then(more)
		default:
			s, m = next.Then(s), more.then(m)
		}
		wantSays(t, s, m)
		wantSays(t, before, was)
		if kinds, _ := s.Vars(); len(kinds) == 11 || largest(m) > 500 {
			s, m = next, more // it would grow and grow
		}
	}
}

// largest is how long the longest text of what is said is.
func largest(m model) int {
	most := 0
	for _, said := range m.types {
		most = max(most, len(types.Text(said)))
	}
	for _, r := range m.rows {
		most = max(most, len(r.Labels))
	}
	return most
}

// TestThenSelf: a substitution may be handed to itself.
func TestThenSelf(t *testing.T) {
	luck := dice(7)
	for range 500 {
		s, m := luck.subst(3)
		wantSays(t, s.Then(s), m.then(m))
		wantSays(t, s, m)
	}
}
