package subst_test

import (
	"math"
	"sort"
	"testing"

	"brocade/api"
	"brocade/subst"
)

// TestNone: None says nothing of any variable, and neither does what nobody made.
func TestNone(t *testing.T) {
	luck := dice(1)
	for _, s := range []subst.Subst{subst.None(), {}, subst.None().Then(subst.None()), subst.Subst{}.Then(subst.Subst{})} {
		wantSays(t, s, nothing())
		for _, n := range []int{math.MinInt, math.MaxInt} {
			if said, known := s.Type(n); known || said.Kind != 0 {
				t.Errorf("%d is %v", n, said)
			}
			if said, known := s.Row(n); known || said.Var != 0 {
				t.Errorf("%d is %v", n, said)
			}
		}
		for range 200 {
			x := luck.made(6)
			wantType(t, "nothing is said", s.Apply(x), x)
			wantRow(t, "nothing is said", s.ApplyRow(x.Row), x.Row)
		}
		wantSays(t, s.SetType(3, kind(api.TypInt)).SetRow(4, row(2)), nothing().setType(3, kind(api.TypInt)).setRow(4, row(2)))
		wantSays(t, s, nothing())
	}
}

// TestSet says this and that of variables, one after the other one; each substitution stays as it was.
func TestSet(t *testing.T) {
	whole, truth := kind(api.TypInt), kind(api.TypBool)
	s, m := subst.None(), nothing()
	var all []subst.Subst
	var models []model
	for _, x := range []struct {
		n       int
		is      api.Type
		rowOf   int
		happens api.Row
	}{
		{5, whole, 2, row(0)},
		{1, truth, 5, row(3, "E")},
		{5, fun(variable(5), row(5, "E"), variable(1)), 5, row(5)}, // told otherwise, and of itself
		{12, variable(1), 1, row(0, "E", "E", "console")},
		{2, ref(variable(2)), 12, row(12, "F")},
		{-2, data("D"), -1, row(7)},
		{0, whole, 0, row(1, "E")},
		{1, truth, 5, row(5)}, // the same once more
	} {
		s, m = s.SetType(x.n, x.is), m.setType(x.n, x.is)
		all, models = append(all, s), append(models, m)
		s, m = s.SetRow(x.rowOf, x.happens), m.setRow(x.rowOf, x.happens)
		all, models = append(all, s), append(models, m)
		for i := range all {
			wantSays(t, all[i], models[i])
		}
	}
	kinds, rows := s.Vars()
	wantNumbers(t, "type variables", kinds, []int{-2, 0, 1, 2, 5, 12})
	wantNumbers(t, "row variables", rows, []int{-1, 0, 1, 2, 5, 12})
}

// TestApart: type variables and row variables of the same number have nothing to do with each other.
func TestApart(t *testing.T) {
	kinds := subst.None().SetType(1, kind(api.TypInt))
	wantSays(t, kinds, nothing().setType(1, kind(api.TypInt)))
	wantType(t, "a row variable", kinds.Apply(fun(variable(2), row(1), variable(1))), fun(variable(2), row(1), kind(api.TypInt)))
	wantRow(t, "a row variable", kinds.ApplyRow(row(1, "E")), row(1, "E"))
	rows := subst.None().SetRow(1, row(0, "E"))
	wantSays(t, rows, nothing().setRow(1, row(0, "E")))
	wantType(t, "a type variable", rows.Apply(fun(variable(1), row(1), variable(1))), fun(variable(1), row(0, "E"), variable(1)))
}

// TestSetMade says more of substitutions that were made earlier, so that many go on from the same one.
func TestSetMade(t *testing.T) {
	luck := dice(2)
	all, models := []subst.Subst{subst.None()}, []model{nothing()}
	for len(all) < 3000 {
		from := len(all) - 1
		if luck.under(4) == 0 {
			from = luck.under(len(all))
		}
		n, said, happens := luck.under(14)-2, luck.made(3), luck.row()
		if luck.under(2) == 0 {
			all, models = append(all, all[from].SetType(n, said)), append(models, models[from].setType(n, said))
		} else {
			all, models = append(all, all[from].SetRow(n, happens)), append(models, models[from].setRow(n, happens))
		}
	}
	for i := range all {
		wantSays(t, all[i], models[i])
	}
}

// TestSetMany says something of very many variables, and goes on twice from the middle of that.
func TestSetMany(t *testing.T) {
	const count, spread = 60000, 7919 // they share no divisor: each number comes once
	s, half := subst.None(), subst.None()
	for i := range count {
		n := i * spread % count
		s = s.SetType(n, ref(variable(n))).SetRow(n, row(n, "E"))
		if i == count/2-1 {
			half = s
		}
	}
	other := half
	for i := range count / 2 {
		other = other.SetType(i*spread%count, data("D"))
	}
	for i := range count {
		n := i * spread % count
		wantSaid(t, s, n, ref(variable(n)))
		if i < count/2 {
			wantSaid(t, half, n, ref(variable(n)))
			wantSaid(t, other, n, data("D"))
			continue
		}
		for _, u := range []subst.Subst{half, other} {
			_, known := u.Type(n)
			_, knownRow := u.Row(n)
			if known || knownRow {
				t.Fatalf("something is said of %d", n)
			}
		}
	}
	kinds, rows := s.Vars()
	for n := range count {
		if len(kinds) != count || len(rows) != count || kinds[n] != n || rows[n] != n {
			t.Fatalf("%d of %d variables, %d is at %d", len(kinds), count, kinds[n], n)
		}
	}
	for _, u := range []subst.Subst{half, other} {
		if kinds, rows := u.Vars(); len(kinds) != count/2 || len(rows) != count/2 || !sort.IntsAreSorted(kinds) || !sort.IntsAreSorted(rows) {
			t.Fatalf("%d and %d variables", len(kinds), len(rows))
		}
	}
}

// wantSaid holds what is said of the type variable n, and that <E|n> is said of the row variable.
func wantSaid(t *testing.T, s subst.Subst, n int, want api.Type) {
	t.Helper()
	said, known := s.Type(n)
	happens, knownRow := s.Row(n)
	wantType(t, n, said, want)
	wantRow(t, n, happens, row(n, "E"))
	if !known || !knownRow {
		t.Fatalf("nothing is said of %d", n)
	}
}
