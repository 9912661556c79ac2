package types_test

import (
	"math"
	"reflect"
	"testing"

	"brocade/api"
	"brocade/types"
)

// wantText holds a right type's text, and reads it back.
func wantText(t *testing.T, x api.Type, want string) {
	t.Helper()
	if got := types.Text(x); got != want || !types.Right(x) {
		t.Fatalf("%+v: %.300s, not %.300s; right: %v", x, got, want, types.Right(x))
	}
	if again := read(t, want); !types.Same(again, x) || !reflect.DeepEqual(bare(again), bare(x)) {
		t.Fatalf("%.300s is read as %+v", want, again)
	}
}

// TestText has texts that are told by the document, word by word.
func TestText(t *testing.T) {
	whole, truth, unit := kind(api.TypInt), kind(api.TypBool), kind(api.TypUnit)
	none := api.Row{}
	for _, x := range []struct {
		of   api.Type
		want string
	}{
		{whole, "int"}, {truth, "bool"}, {unit, "unit"}, {data("List"), "List"}, {data("E_1"), "E_1"},
		{variable(1), "'1"}, {variable(20), "'20"}, {variable(math.MaxInt), "'9223372036854775807"},
		{ref(whole), "ref int"}, {ref(data("D")), "ref D"}, {ref(variable(3)), "ref '3"}, {ref(ref(unit)), "ref (ref unit)"}, {ref(ref(ref(unit))), "ref (ref (ref unit))"},
		{ref(fun(whole, none, truth)), "ref (int -> bool)"}, {ref(ref(fun(whole, none, truth))), "ref (ref (int -> bool))"},
		{fun(whole, none, truth), "int -> bool"}, {fun(variable(1), none, variable(1)), "'1 -> '1"}, {fun(unit, none, data("D")), "unit -> D"},
		{fun(ref(whole), none, ref(truth)), "ref int -> ref bool"}, {fun(ref(ref(whole)), none, unit), "ref (ref int) -> unit"},
		{fun(fun(whole, none, truth), none, unit), "(int -> bool) -> unit"}, {fun(whole, none, fun(truth, none, unit)), "int -> bool -> unit"},
		{fun(fun(fun(whole, none, truth), none, unit), none, fun(unit, none, unit)), "((int -> bool) -> unit) -> unit -> unit"},
		{fun(whole, row(0, "E"), truth), "int -> <E> bool"}, {fun(whole, row(0, "E", "F"), truth), "int -> <E,F> bool"}, {fun(whole, row(0, "E", "E", "F"), truth), "int -> <E,E,F> bool"},
		{fun(whole, row(3), truth), "int -> <|3> bool"}, {fun(whole, row(12, "console"), ref(truth)), "int -> <console|12> ref bool"}, {fun(whole, row(math.MaxInt, "E", "console"), truth), "int -> <E,console|9223372036854775807> bool"},
		{fun(whole, row(3, "console"), ref(truth)), "int -> <console|3> ref bool"},
		{fun(fun(whole, row(1), truth), row(2), fun(unit, row(0, "console"), unit)), "(int -> <|1> bool) -> <|2> unit -> <console> unit"},
		{ref(fun(ref(fun(whole, row(1, "E"), truth)), row(2), unit)), "ref (ref (int -> <E|1> bool) -> <|2> unit)"},
	} {
		wantText(t, x.of, x.want)
		withNone := x.of
		if withNone.Args == nil {
			withNone.Args = []api.Type{}
		}
		if withNone.Row.Labels == nil {
			withNone.Row.Labels = []string{}
		}
		wantText(t, withNone, x.want)
	}
}

// TestTextsUnlike: unlike right types have unlike texts.
func TestTextsUnlike(t *testing.T) {
	known := map[string]api.Type{}
	for _, x := range rightTypes() {
		text := types.Text(x)
		if other, there := known[text]; there {
			t.Fatalf("%s: %+v and %+v", text, other, x)
		}
		known[text] = x
		wantText(t, x, text)
	}
	if len(known) < 5000 {
		t.Errorf("only %d", len(known))
	}
}

// rightTypes are unlike right types: some without Args, all refs and functions of three of these, and all of all of those.
func rightTypes() []api.Type {
	least := []api.Type{kind(api.TypInt), data("D"), variable(1)}
	within := append(refs(least), functions(least, row(0), row(1), row(2), row(0, "E"), row(0, "E", "E"), row(0, "D", "E"), row(1, "E"))...)
	all := append(functions(append(least, within...), row(3), row(0, "console")), refs(within)...)
	all = append(append(all, within...), least...)
	return append(all, kind(api.TypBool), kind(api.TypUnit), data("E"), variable(2), variable(11))
}

func refs(held []api.Type) []api.Type { return each(held, ref) }

// functions are all from some types to some types, by some rows.
func functions(parts []api.Type, rows ...api.Row) []api.Type {
	var out []api.Type
	for _, takes := range parts {
		for _, answers := range parts {
			for _, r := range rows {
				out = append(out, fun(takes, r, answers))
			}
		}
	}
	return out
}
