package scheme_test

import (
	"slices"
	"testing"

	"brocade/api"
	"brocade/scheme"
	"brocade/types"
)

// overType writes over all that a type has, and what lies behind its lists.
func overType(t api.Type) {
	full := t.Row.Labels[:cap(t.Row.Labels)]
	for i := range full {
		full[i] = "over"
	}
	for _, arg := range t.Args {
		overType(arg)
	}
	args := t.Args[:cap(t.Args)]
	for i := range args {
		args[i] = api.Type{Kind: api.TypData, Name: "over", Row: row(77, "over")}
	}
}

func overNumbers(list []int) {
	full := list[:cap(list)]
	for i := range full {
		full[i] = -7
	}
}

func overScheme(s scheme.Scheme) {
	overNumbers(s.Types)
	overNumbers(s.Rows)
	overType(s.Type)
}

// copied is a scheme with lists of its own, and something behind the bound variables.
func copied(s scheme.Scheme) scheme.Scheme {
	kinds, rows := append(slices.Clone(s.Types), 1, 2), append(slices.Clone(s.Rows), 1, 2)
	return scheme.Scheme{Types: kinds[:len(s.Types)], Rows: rows[:len(s.Rows)], Type: scheme.Bare(s.Type).Type}
}

// TestOwners: what is handed in stays, and may be written over, and so may be what is answered (R1); the same calls
// have the same answers (R4).
func TestOwners(t *testing.T) {
	luck := dice(7)
	for range 2000 {
		kept, keptKnown := luck.scheme(5), luck.scheme(3)
		x := luck.subst(kept.Types, kept.Rows).Apply(kept.Type)
		answers := func(s, known scheme.Scheme) []string {
			bare, general := scheme.Bare(s.Type), scheme.General([]scheme.Scheme{known}, s.Type)
			kinds, rows := scheme.Free(s)
			fresh, _ := scheme.Fresh(s, 9)
			out := []string{told(bare), listed(kinds, rows), told(general), types.Text(fresh)}
			if !scheme.Instance(s, x) {
				out = append(out, "no instance")
			}
			overScheme(bare)
			overScheme(general)
			overNumbers(kinds)
			overNumbers(rows)
			overType(fresh)
			return out
		}
		s, known := copied(kept), copied(keptKnown)
		want := answers(s, known)
		if again := answers(s, known); !slices.Equal(again, want) || len(want) != 4 {
			t.Fatalf("%q, not %q", again, want)
		}
		if told(s) != told(kept) || told(known) != told(keptKnown) || s.Types[:cap(s.Types)][len(s.Types)] != 1 || s.Rows[:cap(s.Rows)][len(s.Rows)] != 1 {
			t.Fatalf("%s became %s, %s became %s", told(kept), told(s), told(keptKnown), told(known))
		}
		bare, general := scheme.Bare(s.Type), scheme.General([]scheme.Scheme{known}, s.Type)
		kinds, rows := scheme.Free(s)
		fresh, _ := scheme.Fresh(s, 9)
		overScheme(s)
		overScheme(known)
		if now := []string{told(bare), listed(kinds, rows), told(general), types.Text(fresh)}; !slices.Equal(now, want) {
			t.Fatalf("%q became %q", want, now)
		}
	}
}

// TestListsApart: no two lists of one answer are one, though those of what was handed in were.
func TestListsApart(t *testing.T) {
	labels := []string{"E"}
	part := api.Type{Kind: api.TypFun, Args: []api.Type{variable(1), variable(2)}, Row: api.Row{Labels: labels, Var: 1}}
	x := fun(part, api.Row{Labels: labels, Var: 2}, ref(part))
	numbers := []int{1, 2}
	fresh, _ := scheme.Fresh(scheme.Scheme{Types: numbers, Rows: numbers, Type: x}, 9)
	for _, got := range []api.Type{scheme.Bare(x).Type, scheme.General(nil, x).Type, fresh} {
		firsts, names := map[*api.Type]int{}, map[*string]int{}
		countLists(got, firsts, names)
		if len(firsts) != 4 || len(names) != 3 || firsts[&x.Args[0]]+firsts[&part.Args[0]]+names[&labels[0]] > 0 {
			t.Errorf("%s has lists together", types.Text(got))
		}
	}
	s := scheme.General(nil, x)
	if &s.Types[0] == &s.Rows[0] {
		t.Error("the bound variables are one list")
	}
}

// countLists counts in how many places the lists of a type stand.
func countLists(t api.Type, firsts map[*api.Type]int, labels map[*string]int) {
	if len(t.Row.Labels) > 0 {
		labels[&t.Row.Labels[0]]++
	}
	if len(t.Args) > 0 {
		firsts[&t.Args[0]]++
	}
	for _, arg := range t.Args {
		countLists(arg, firsts, labels)
	}
}
