package subst_test

import (
	"reflect"
	"testing"

	"brocade/api"
	"brocade/subst"
	"brocade/types"
)

// bare is a type with lists of its own, that are nil if they have no items.
func bare(t api.Type) api.Type {
	t.Row = bareRow(t.Row)
	t.Args = each(t.Args, bare)
	return t
}

func bareRow(r api.Row) api.Row {
	r.Labels = each(r.Labels, func(label string) string { return label })
	return r
}

func each[A, B any](l []A, become func(A) B) []B {
	var out []B
	for _, item := range l {
		out = append(out, become(item))
	}
	return out
}

func wantType(t *testing.T, what any, got, want api.Type) {
	t.Helper()
	if !reflect.DeepEqual(bare(got), bare(want)) {
		t.Fatalf("%+v: %s, not %s (%+v, not %+v)", what, types.Text(got), types.Text(want), got, want)
	}
}

func wantRow(t *testing.T, what any, got, want api.Row) {
	t.Helper()
	if !reflect.DeepEqual(bareRow(got), bareRow(want)) {
		t.Fatalf("%+v: %+v, not %+v", what, got, want)
	}
}

func wantNumbers(t *testing.T, what any, got, want []int) {
	t.Helper()
	if len(got)+len(want) > 0 && !reflect.DeepEqual(got, want) {
		t.Fatalf("%+v: %v, not %v", what, got, want)
	}
}

// wantSays holds what a substitution says of all variables from -2 to 12, and which these are.
func wantSays(t *testing.T, s subst.Subst, m model) {
	t.Helper()
	kinds, rows := s.Vars()
	wantKinds, wantRows := m.vars()
	wantNumbers(t, "type variables", kinds, wantKinds)
	wantNumbers(t, "row variables", rows, wantRows)
	for n := -2; n <= 12; n++ {
		said, known := s.Type(n)
		want, wanted := m.types[n]
		wantType(t, n, said, want)
		happens, knownRow := s.Row(n)
		wantHappens, wantedRow := m.rows[n]
		wantRow(t, n, happens, wantHappens)
		if known != wanted || knownRow != wantedRow {
			t.Fatalf("%d: says a type: %v, a row: %v", n, known, knownRow)
		}
	}
}
