package scheme_test

import (
	"strconv"
	"testing"

	"brocade/api"
	"brocade/scheme"
	"brocade/subst"
	"brocade/types"
	"brocade/unify"
)

// TestInstancesByHand tells of some types what are instances of them, and what are none (H3).
func TestInstancesByHand(t *testing.T) {
	for of, texts := range map[string]struct{ are, not []string }{
		"int":                       {[]string{"int"}, []string{"bool", "unit", "D", "'1", "ref int", "int -> int"}},
		"D":                         {[]string{"D"}, []string{"D1", "E", "int"}},
		"'1":                        {[]string{"'1"}, []string{"'2", "int", "ref '1"}},
		"'1: '1":                    {[]string{"'1", "'2", "int", "D", "ref '1", "'1 -> <E|1> '1"}, nil},
		"'2: '1":                    {[]string{"'1"}, []string{"'2", "int"}},
		"|1: '1":                    {[]string{"'1"}, []string{"'2", "int"}},
		"'1: ref '1":                {[]string{"ref '1", "ref ref '1", "ref int", "ref (D -> D)"}, []string{"'1", "int", "int -> int"}},
		"'1: '1 -> '2":              {[]string{"int -> '2", "'2 -> '2", "'1 -> '2", "ref '2 -> '2"}, []string{"int -> bool", "int -> '1", "'2 -> '1", "int -> <|1> '2", "int -> <E> '2", "'1", "'2"}},
		"'1: '1 -> '1":              {[]string{"int -> int", "'1 -> '1", "'2 -> '2", "('1 -> '2) -> '1 -> '2", "ref '1 -> ref '1"}, []string{"int -> bool", "'1 -> '2", "'2 -> '1", "('1 -> '2) -> '2 -> '1", "('1 -> '2) -> '1 -> <E> '2", "'1 -> ref '1"}},
		"'1 '2: '1 -> '2 -> '1":     {[]string{"'2 -> '1 -> '2", "int -> int -> int", "int -> bool -> int"}, []string{"int -> int -> bool", "int -> int", "(int -> int) -> int"}},
		"'1 |4: '1 -> <E|4> '2":     {[]string{"'1 -> <E|4> '2", "bool -> <E,F> '2", "bool -> <D,E|2> '2", "int -> <E,E> '2", "int -> <E> '2"}, []string{"bool -> <F> '2", "bool -> <E> int", "bool -> '2", "bool -> <|4> '2", "bool -> <D,F|4> '2"}},
		"'1 |4: '1 -> <E,E,G|4> '2": {[]string{"int -> <E,E,G> '2", "int -> <E,E,E,G,G|1> '2", "int -> <D,E,E,F,G,H> '2"}, []string{"int -> <E,G|4> '2", "int -> <E,E|4> '2", "int -> <D,E,F,G> '2", "int -> <G|4> '2"}},
		"int -> <E|4> int":          {[]string{"int -> <E|4> int"}, []string{"int -> <E> int", "int -> <E|3> int", "int -> <E,E|4> int", "int -> <|4> int"}},
		"|3: int -> <E> int":        {[]string{"int -> <E> int"}, []string{"int -> <E|3> int", "int -> <E,F> int", "int -> int"}},
		"'4: int -> <E|4> int":      {[]string{"int -> <E|4> int"}, []string{"int -> <E> int", "int -> <E|3> int", "int -> <E,E|4> int"}},
		"|1: unit -> <|1> D":        {[]string{"unit -> D", "unit -> <|1> D", "unit -> <|2> D", "unit -> <E,F|2> D", "unit -> <console> D"}, []string{"unit -> unit", "D -> D", "unit -> <E> unit"}},
		"|1: unit -> <E|1> int -> <F|1> int": {
			[]string{"unit -> <E> int -> <F> int", "unit -> <E|9> int -> <F|9> int", "unit -> <E,F> int -> <F,F> int", "unit -> <E,E|1> int -> <E,F|1> int"},
			[]string{"unit -> <E|1> int -> <F> int", "unit -> <E|1> int -> <F|2> int", "unit -> <E,F> int -> <E,F> int", "unit -> <E,E> int -> <F,F> int"},
		},
		"'1 |1: ('1 -> <|1> '2) -> <|1> '1": {
			[]string{"(int -> '2) -> int", "('2 -> <E|2> '2) -> <E|2> '2"},
			[]string{"(int -> '1) -> int", "(int -> <E> '2) -> int", "(int -> '2) -> <E> int", "(int -> '2) -> bool", "int -> int"},
		},
		"'1: ref ref '1 -> '1": {[]string{"ref ref int -> int", "ref ref ref int -> ref int"}, []string{"ref int -> int", "ref ref int -> ref int", "ref ref int -> bool"}},
	} {
		for _, text := range texts.are {
			if !scheme.Instance(readScheme(t, of), readType(t, text)) {
				t.Errorf("%s is no instance of %s", text, of)
			}
		}
		for _, text := range texts.not {
			if scheme.Instance(readScheme(t, of), readType(t, text)) {
				t.Errorf("%s is an instance of %s", text, of)
			}
		}
	}
}

// TestFromTheText is the document's example.
func TestFromTheText(t *testing.T) {
	s := scheme.General([]scheme.Scheme{scheme.Bare(variable(2))}, fun(variable(1), row(0), variable(2)))
	if told(s) != "'1: '1 -> '2" || !scheme.Instance(s, readType(t, "int -> '2")) || scheme.Instance(s, readType(t, "int -> bool")) {
		t.Error(told(s))
	}
}

// small is all types of at most one function or ref, with few parts.
func small() ([]api.Type, []api.Row) {
	least := []api.Type{kind(api.TypInt), variable(1), variable(2)}
	rows := []api.Row{row(0), row(0, "E"), row(1), row(1, "E"), row(2)}
	all := append([]api.Type(nil), least...)
	for _, a := range least {
		all = append(all, ref(a))
		for _, r := range rows {
			for _, b := range least {
				all = append(all, fun(a, r, b))
			}
		}
	}
	return all, rows
}

// both is the numbers that are in two lists.
func both(list, other []int) []int { return left(list, left(list, other)) }

// each calls do with each substitution that says one of some types, or rows, of each of some variables.
func each(kinds, rows []int, all []api.Type, happens []api.Row, s subst.Subst, do func(subst.Subst)) {
	switch {
	case len(kinds) > 0:
		for _, x := range all {
			each(kinds[1:], rows, all, happens, s.SetType(kinds[0], x), do)
		}
	case len(rows) > 0:
		for _, r := range happens {
			each(nil, rows[1:], all, happens, s.SetRow(rows[0], r), do)
		}
	default:
		do(s)
	}
}

// TestSmall goes by the words: it holds all pairs of small types against each other, and tries all that could be said
// of bound variables to make the one of the other one. Whatever comes of that is an instance, too.
func TestSmall(t *testing.T) {
	all, happens := small()
	for _, of := range all {
		for _, kinds := range [][]int{nil, {1}, {2}, {2, 1}} {
			for _, rows := range [][]int{nil, {1}, {2, 1}} {
				s := scheme.Scheme{Types: kinds, Rows: rows, Type: of}
				made := map[string]bool{}
				each(both(kinds, standing(of, '\'')), both(rows, standing(of, '|')), all, happens, subst.None(), func(by subst.Subst) {
					x := by.Apply(of)
					if text := types.Text(x); !made[text] {
						made[text] = true
						if !scheme.Instance(s, x) {
							t.Fatalf("%s is no instance of %s", text, told(s))
						}
					}
				})
				for _, x := range all {
					if got, want := scheme.Instance(s, x), made[types.Text(x)]; got != want {
						t.Fatalf("%s: an instance of %s: %v", types.Text(x), told(s), got)
					}
				}
			}
		}
	}
}

// still is a type in which variables are data and labels, so that nothing can be said of them any more.
func still(x api.Type) api.Type {
	if x.Kind == api.TypVar {
		return data("'" + strconv.Itoa(x.Var))
	}
	out := x
	out.Args = nil
	for _, arg := range x.Args {
		out.Args = append(out.Args, still(arg))
	}
	if x.Row.Var != 0 {
		out.Row = types.Add(row(0, x.Row.Labels...), "|"+strconv.Itoa(x.Row.Var))
	}
	return out
}

// open is a scheme's type in which the free variables are still, and the others are not.
func open(s scheme.Scheme) api.Type {
	by := subst.None()
	kinds, rows := scheme.Free(s)
	for _, n := range kinds {
		by = by.SetType(n, still(variable(n)))
	}
	for _, n := range rows {
		by = by.SetRow(n, still(fun(variable(1), row(n), variable(1))).Row)
	}
	return by.Apply(s.Type)
}

// unified tells whether something makes the scheme's type the same as one that stays as it is.
func unified(s scheme.Scheme, x api.Type) bool {
	_, _, err := unify.Types(subst.None(), open(s), still(x), 100)
	return err == api.OK
}

// changed is a type with some part of it made up anew.
func (d *dice) changed(x api.Type) api.Type {
	switch {
	case d.under(5) == 0 || len(x.Args) == 0:
		return d.made(1 + d.under(2))
	case x.Kind == api.TypRef:
		return ref(d.changed(x.Args[0]))
	}
	switch d.under(3) {
	case 0:
		return fun(d.changed(x.Args[0]), x.Row, x.Args[1])
	case 1:
		return fun(x.Args[0], x.Row, d.changed(x.Args[1]))
	}
	return fun(x.Args[0], d.row(), x.Args[1])
}

// TestMadeUp makes up schemes, and types that are instances of them, or nearly.
func TestMadeUp(t *testing.T) {
	luck, count := dice(4), [2]int{}
	for range 8000 {
		s := luck.scheme(5)
		x := luck.subst(s.Types, s.Rows).Apply(s.Type)
		if !scheme.Instance(s, x) {
			t.Fatalf("%s is no instance of %s", types.Text(x), told(s))
		}
		for _, near := range []api.Type{luck.changed(x), luck.changed(s.Type), luck.subst(luck.some(), luck.some()).Apply(s.Type), luck.made(4)} {
			got := scheme.Instance(s, near)
			if got != unified(s, near) {
				t.Fatalf("%s: an instance of %s: %v", types.Text(near), told(s), got)
			}
			if got {
				count[1]++
			} else {
				count[0]++
			}
		}
	}
	if count[0] < 5000 || count[1] < 5000 {
		t.Errorf("only %d are none, %d are instances", count[0], count[1])
	}
}

// TestWhatFollows: whatever leaves the free variables makes an instance of a scheme's fresh type.
func TestWhatFollows(t *testing.T) {
	luck, made := dice(5), 0
	for range 8000 {
		s := luck.scheme(5)
		if luck.under(2) == 0 {
			s = scheme.General([]scheme.Scheme{luck.scheme(3)}, s.Type)
		}
		fresh, _ := scheme.Fresh(s, 1+luck.under(12))
		freeKinds, freeRows := scheme.Free(s)
		kinds, rows := types.Vars(fresh)
		by := luck.subst(left(kinds, freeKinds), left(rows, freeRows))
		if x := by.Apply(fresh); !scheme.Instance(s, x) {
			t.Fatalf("%s is no instance of %s", types.Text(x), told(s))
		} else if !types.Same(x, fresh) {
			made++
		}
	}
	if made < 3000 {
		t.Errorf("only %d became others", made)
	}
}

// TestUnifiedIsInstance: what makes a fresh type the same as another one, that has other variables, makes an instance of it.
func TestUnifiedIsInstance(t *testing.T) {
	luck, made := dice(6), 0
	for range 6000 {
		x := luck.made(4)
		s := scheme.General(nil, x)
		fresh, next := scheme.Fresh(s, 10)
		by, _, err := unify.Types(subst.None(), fresh, luck.changed(x), next)
		if err != api.OK {
			continue
		}
		made++
		if got := by.Apply(fresh); !scheme.Instance(s, got) {
			t.Fatalf("%s is no instance of %s", types.Text(got), told(s))
		}
	}
	if made < 1000 {
		t.Errorf("only %d were made the same", made)
	}
}
