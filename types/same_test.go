package types_test

import (
	"reflect"
	"testing"

	"brocade/api"
	"brocade/types"
)

// samples are unlike types, right or not, each of which differs from another one in one field alone.
func samples() []api.Type {
	whole := kind(api.TypInt)
	out := []api.Type{
		{}, {Kind: -1}, {Kind: 9}, whole, kind(api.TypBool), kind(api.TypUnit), kind(api.TypData), data("D"), data("E"), data("d"), data("D "),
		variable(0), variable(1), variable(2), variable(-1), {Kind: api.TypVar, Var: 1, Name: "D"}, {Kind: api.TypInt, Var: 1}, {Kind: api.TypInt, Name: "D"},
		{Kind: api.TypInt, Row: row(1)}, {Kind: api.TypInt, Row: row(0, "E")}, {Kind: api.TypInt, Args: []api.Type{whole}}, {Kind: api.TypInt, Args: []api.Type{{}}},
		kind(api.TypRef), ref(whole), ref(variable(1)), ref(ref(whole)), ref(ref(variable(1))), {Kind: api.TypRef, Args: []api.Type{whole, whole}},
		kind(api.TypFun), {Kind: api.TypFun, Args: []api.Type{whole}}, {Kind: api.TypFun, Args: []api.Type{whole, whole, whole}}, {Kind: api.TypFun, Row: row(1)},
	}
	for _, r := range []api.Row{row(0), row(1), row(2), row(-1), row(0, ""), row(0, "E"), row(0, "F"), row(1, "E"), row(0, "E", "E"), row(0, "E", "F"), row(0, "F", "E"), row(0, "E,F"), row(0, "E|1")} {
		out = append(out, fun(whole, r, whole), fun(variable(1), r, whole), fun(whole, r, variable(1)), fun(fun(whole, r, variable(2)), row(3), whole), fun(whole, row(3), fun(whole, r, variable(2))), ref(fun(variable(2), r, whole)))
	}
	return out
}

// filled is a type whose lists without items are no nil.
func filled(t api.Type) api.Type {
	t.Args = append([]api.Type{}, each(t.Args, filled)...)
	t.Row.Labels = append([]string{}, t.Row.Labels...)
	return t
}

// TestSame holds each of some types against each.
func TestSame(t *testing.T) {
	all := samples()
	for i, a := range all {
		for j, b := range all {
			for _, other := range []api.Type{b, bare(b), filled(b)} {
				if got := types.Same(a, other); got != (i == j) {
					t.Fatalf("%+v and %+v: %v", a, other, got)
				}
				if got := types.SameRow(a.Row, other.Row); got != reflect.DeepEqual(bareRow(a.Row), bareRow(b.Row)) {
					t.Fatalf("%+v and %+v: %v", a.Row, other.Row, got)
				}
			}
		}
	}
}

// TestSameDeep has types that are unlike in one place alone, which is deep within.
func TestSameDeep(t *testing.T) {
	all := samples()
	for _, way := range ways() {
		for _, deep := range []int{1, 7, 199, 200, 201, 1000} {
			for i := range all {
				a, b, c := all[i], bare(all[i]), all[(i+1)%len(all)]
				for range deep {
					a, b, c = way(a), way(b), way(c)
				}
				if !types.Same(a, b) || types.Same(a, c) || types.Same(c, b) || types.Same(a, a.Args[0]) || types.Same(ref(a), a) {
					t.Fatalf("%d deep: %+v", deep, all[i])
				}
			}
		}
	}
}

// TestSamePlaces has types in which one and the same thing stands in many places, and others where it doesn't.
func TestSamePlaces(t *testing.T) {
	whole, truth, happens := kind(api.TypInt), kind(api.TypBool), row(1)
	leaves := []api.Type{whole, truth, ref(whole), ref(truth), fun(whole, happens, truth), fun(truth, happens, whole)}
	var all []api.Type
	for _, a := range leaves {
		for _, b := range leaves {
			for _, c := range leaves {
				all = append(all, fun(fun(a, happens, b), happens, fun(b, happens, c)), fun(fun(a, happens, a), happens, fun(b, happens, ref(c))))
			}
		}
	}
	for _, a := range all {
		for _, b := range all {
			if got := types.Same(a, b); got != reflect.DeepEqual(a, b) {
				t.Fatalf("%s and %s: %v", types.Text(a), types.Text(b), got)
			}
		}
	}
}
