package unify_test

import (
	"testing"

	"brocade/api"
	"brocade/subst"
	"brocade/types"
	"brocade/unify"
)

// overType writes over all that a type has, and what lies behind its lists.
func overType(t api.Type) {
	overRow(t.Row)
	for _, arg := range t.Args {
		overType(arg)
	}
	full := t.Args[:cap(t.Args)]
	for i := range full {
		full[i] = api.Type{Kind: api.TypData, Name: "over", Row: row(77, "over")}
	}
}

func overRow(r api.Row) {
	full := r.Labels[:cap(r.Labels)]
	for i := range full {
		full[i] = "over"
	}
}

// TestOwners: what is handed in stays, and may be written over, as may be what the answer says (R1); the same
// calls have the same answers (R4).
func TestOwners(t *testing.T) {
	luck := dice(41)
	for range 1500 {
		m := luck.general()
		s := subst.None()
		before, want := told(s), ""
		a := luck.made(5)
		b := luck.like(m, a)
		textA, textB := types.Text(a), types.Text(b)
		got, next, err := unify.Types(s, a, b, 20)
		for range 3 {
			again, after, errno := unify.Types(s, a, b, 20)
			if want = told(got); told(again) != want || after != next || errno != err {
				t.Fatalf("%s is not %s", told(again), want)
			}
		}
		if types.Text(a) != textA || types.Text(b) != textB || told(s) != before {
			t.Fatalf("%s became %s, %s became %s", textA, types.Text(a), textB, types.Text(b))
		}
		for n := range 20 {
			said, _ := got.Type(n)
			happens, _ := got.Row(n)
			overType(said)
			overRow(happens)
		}
		overType(a)
		overType(b)
		if told(got) != want {
			t.Fatalf("%s became %s", want, told(got))
		}
	}
}

// TestRowOwners: rows that are handed in stay, with what is behind their labels; and what goes on from a substitution
// has nothing to do with what else goes on from it (R3).
func TestRowOwners(t *testing.T) {
	luck := dice(42)
	for range 1500 {
		r := luck.row()
		room := append(append([]string{}, r.Labels...), "behind", "behind")
		a, b := api.Row{Labels: room[:len(r.Labels)], Var: r.Var}, luck.row()
		textA, textB := rowText(a), rowText(b)
		s := subst.None().SetRow(8, row(a.Var, "E")).SetType(8, fun(variable(1), b, variable(2)))
		before := told(s)
		got, next, err := unify.Rows(s, a, b, 9)
		want := told(got)
		unify.Types(s, variable(1), variable(2), 9)
		unify.Types(got, variable(1), variable(2), next)
		unify.Rows(got, row(3, "D"), row(4, "E"), next)
		if rowText(a) != textA || rowText(b) != textB || room[len(r.Labels)] != "behind" || room[len(r.Labels)+1] != "behind" {
			t.Fatalf("%s became %s, %s became %s", textA, rowText(a), textB, rowText(b))
		}
		overRow(a)
		overRow(b)
		if told(s) != before || told(got) != want || err != api.OK && want != before {
			t.Fatalf("%s became %s, or %s became %s", before, told(s), want, told(got))
		}
	}
}
