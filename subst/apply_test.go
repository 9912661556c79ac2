package subst_test

import (
	"testing"

	"brocade/api"
	"brocade/subst"
	"brocade/types"
)

func TestApplyByHand(t *testing.T) {
	whole, truth, unit := kind(api.TypInt), kind(api.TypBool), kind(api.TypUnit)
	s := subst.None().
		SetType(1, whole).
		SetType(2, fun(variable(1), row(1, "E"), variable(2))).
		SetType(3, variable(4)).SetType(4, variable(3)).
		SetType(5, ref(variable(5))).
		SetRow(1, row(2, "E")).SetRow(2, row(1)).
		SetRow(3, row(0)).
		SetRow(4, row(4, "A", "E", "Z")).
		SetRow(5, row(0, "E", "E"))
	for _, x := range []struct {
		of   api.Type
		want string
	}{
		{whole, "int"}, {truth, "bool"}, {unit, "unit"}, {data("D"), "D"}, {variable(6), "'6"}, {ref(variable(6)), "ref '6"},
		{variable(1), "int"}, {ref(variable(1)), "ref int"}, {ref(ref(variable(1))), "ref (ref int)"},
		{fun(variable(1), row(0), variable(6)), "int -> '6"}, {fun(variable(6), row(0), variable(1)), "'6 -> int"}, {fun(variable(1), row(0), variable(1)), "int -> int"},
		{variable(2), "'1 -> <E|1> '2"}, {ref(variable(2)), "ref ('1 -> <E|1> '2)"},
		{fun(variable(2), row(1), variable(2)), "('1 -> <E|1> '2) -> <E|2> '1 -> <E|1> '2"},
		{fun(variable(3), row(0), variable(4)), "'4 -> '3"}, {fun(variable(4), row(0), variable(3)), "'3 -> '4"},
		{variable(5), "ref '5"}, {ref(variable(5)), "ref (ref '5)"},
		{fun(unit, row(1), unit), "unit -> <E|2> unit"}, {fun(unit, row(2), unit), "unit -> <|1> unit"}, {fun(unit, row(3), unit), "unit -> unit"},
		{fun(unit, row(6, "E"), unit), "unit -> <E|6> unit"}, {fun(unit, row(0, "E"), unit), "unit -> <E> unit"}, {fun(unit, row(1, "E"), unit), "unit -> <E,E|2> unit"},
		{fun(unit, row(3, "E", "F"), unit), "unit -> <E,F> unit"}, {fun(unit, row(4), unit), "unit -> <A,E,Z|4> unit"},
		{fun(unit, row(4, "B", "E", "console"), unit), "unit -> <A,B,E,E,Z,console|4> unit"}, {fun(unit, row(5, "D", "E", "F"), unit), "unit -> <D,E,E,E,F> unit"},
		{fun(fun(variable(1), row(1), variable(6)), row(2), fun(variable(5), row(3), unit)), "(int -> <E|2> '6) -> <|1> ref '5 -> unit"},
	} {
		got := s.Apply(x.of)
		if types.Text(got) != x.want || !types.Right(got) {
			t.Errorf("%s: %s, not %s", types.Text(x.of), types.Text(got), x.want)
		}
		if x.of.Kind == api.TypFun {
			wantRow(t, x.of, s.ApplyRow(x.of.Row), got.Row)
		}
	}
}

func TestApplyRowByHand(t *testing.T) {
	s := subst.None().SetRow(1, row(2, "E")).SetRow(2, row(0, "A", "b")).SetRow(3, row(3)).SetRow(4, row(9, "E1", "E1", "console"))
	for _, x := range []struct{ of, want api.Row }{
		{row(0), row(0)}, {row(0, "E", "F"), row(0, "E", "F")}, {row(7), row(7)}, {row(7, "E"), row(7, "E")},
		{row(1), row(2, "E")}, {row(1, "E"), row(2, "E", "E")}, {row(1, "D", "F"), row(2, "D", "E", "F")},
		{row(2, "B", "a", "c"), row(0, "A", "B", "a", "b", "c")}, {row(2), row(0, "A", "b")},
		{row(3), row(3)}, {row(3, "E"), row(3, "E")}, {row(4, "E", "E1", "F", "x"), row(9, "E", "E1", "E1", "E1", "F", "console", "x")},
	} {
		wantRow(t, x.of, s.ApplyRow(x.of), x.want)
	}
}

// TestClosed: a closed row stays closed, though something is said of 0; and the kinds without variables have none.
func TestClosed(t *testing.T) {
	s := subst.None().SetRow(0, row(1, "E")).SetType(0, variable(3))
	wantRow(t, "closed", s.ApplyRow(row(0)), row(0))
	wantRow(t, "closed", s.ApplyRow(row(0, "F")), row(0, "F"))
	for _, x := range []api.Type{kind(api.TypInt), kind(api.TypBool), kind(api.TypUnit), data("D"), ref(data("D")), fun(kind(api.TypInt), row(0), variable(1)), fun(ref(variable(2)), row(0, "F"), kind(api.TypUnit))} {
		wantType(t, "closed", s.Apply(x), x)
	}
	u := subst.None().SetRow(1, row(0, "F")).Then(s)
	wantRow(t, "closed", u.ApplyRow(row(1)), row(0, "F"))
}

// TestApplyMade has made up types and substitutions.
func TestApplyMade(t *testing.T) {
	luck := dice(3)
	for range 4000 {
		s, m := luck.subst(3)
		x, r := luck.made(1+luck.under(6)), luck.row()
		got := s.Apply(x)
		wantType(t, types.Text(x), got, m.apply(x))
		wantRow(t, r, s.ApplyRow(r), m.applyRow(r))
		if !types.Right(got) || !types.RightRow(s.ApplyRow(r)) {
			t.Fatalf("%s is not right", types.Text(got))
		}
		wantSays(t, s, m)
	}
}

// pair makes up a type, and what becomes of it, both at once.
func (d *dice) pair(m model, deep int) (api.Type, api.Type) {
	switch least := d.under(6); {
	case deep > 1 && least < 3:
		takes, takesThen := d.pair(m, deep-1)
		answers, answersThen := d.pair(m, deep-1)
		happens := d.row()
		return fun(takes, happens, answers), fun(takesThen, m.applyRow(happens), answersThen)
	case deep > 1 && least < 4:
		held, heldThen := d.pair(m, deep-1)
		return ref(held), ref(heldThen)
	}
	n := 1 + d.under(9)
	if said, known := m.types[n]; known {
		return variable(n), said
	}
	return variable(n), variable(n)
}

// TestApplyDeep has types that are as deep as they may be, and what is said of their variables.
func TestApplyDeep(t *testing.T) {
	luck := dice(4)
	for range 300 {
		s, m := luck.subst(4)
		x, want := luck.pair(m, 3)
		for types.Depth(x) < api.MaxDeep {
			side, sideThen := luck.pair(m, 2)
			happens := luck.row()
			switch luck.under(3) {
			case 0:
				x, want = ref(x), ref(want)
			case 1:
				x, want = fun(x, happens, side), fun(want, m.applyRow(happens), sideThen)
			default:
				x, want = fun(side, happens, x), fun(sideThen, m.applyRow(happens), want)
			}
		}
		wantType(t, "deep", s.Apply(x), want)
	}
}
