package types_test

import (
	"math"
	"reflect"
	"sort"
	"testing"

	"brocade/api"
	"brocade/types"
)

func wantRow(t *testing.T, what any, got, want api.Row) {
	t.Helper()
	if !reflect.DeepEqual(bareRow(got), bareRow(want)) {
		t.Fatalf("%+v: %+v, not %+v", what, got, want)
	}
}

// slowSorted takes the least label again and again.
func slowSorted(r api.Row) api.Row {
	left, out := append([]string{}, r.Labels...), api.Row{Var: r.Var}
	for len(left) > 0 {
		least := 0
		for i, label := range left {
			if label < left[least] {
				least = i
			}
		}
		out.Labels = append(out.Labels, left[least])
		left = append(left[:least], left[least+1:]...)
	}
	return out
}

// slowLess leaves out the first label of a name.
func slowLess(r api.Row, label string) (api.Row, bool) {
	out, gone := api.Row{Var: r.Var}, false
	for _, other := range r.Labels {
		if other == label && !gone {
			gone = true
		} else {
			out.Labels = append(out.Labels, other)
		}
	}
	return out, gone
}

// TestRows has all rows of up to four of some labels.
func TestRows(t *testing.T) {
	for _, labels := range labelLists(4, "A", "AA", "B", "console", "x") {
		for _, number := range []int{0, 1, 8, math.MaxInt} {
			r := row(number, labels...)
			sorted := types.Sorted(r)
			wantRow(t, r, sorted, slowSorted(r))
			if !types.RightRow(sorted) {
				t.Fatalf("%v is not right", sorted)
			}
			if sort.StringsAreSorted(labels) {
				wantLabels(t, r)
			}
		}
	}
}

// wantLabels adds to a right row each of some labels, and takes it away.
func wantLabels(t *testing.T, r api.Row) {
	t.Helper()
	calm := r.Var == 0
	for _, label := range r.Labels {
		calm = calm && label == "console"
	}
	if got := types.Calm(r); got != calm {
		t.Fatalf("%v is calm: %v", r, got)
	}
	for _, label := range []string{"A", "AA", "B", "C", "console", "x", "0", "zz"} {
		more := types.Add(r, label)
		wantRow(t, r, more, slowSorted(row(r.Var, append([]string{label}, r.Labels...)...)))
		again, there := types.Less(more, label)
		wantRow(t, more, again, r)
		less, was := types.Less(r, label)
		want, wanted := slowLess(r, label)
		wantRow(t, r, less, want)
		if !there || was != wanted {
			t.Fatalf("%v and %s: %v and %v", r, label, there, was)
		}
	}
}

func TestRowsByHand(t *testing.T) {
	wantRow(t, "Sorted", types.Sorted(row(2, "console", "a", "B", "a", "A")), row(2, "A", "B", "a", "a", "console"))
	wantRow(t, "Sorted", types.Sorted(row(0, "b\xff", "bé", "b", "", "bz")), row(0, "", "b", "bz", "bé", "b\xff"))
	wantRow(t, "Sorted", types.Sorted(api.Row{}), api.Row{})
	wantRow(t, "Sorted", types.Sorted(row(-3, "E")), row(-3, "E"))
	wantRow(t, "Add", types.Add(api.Row{}, "E"), row(0, "E"))
	wantRow(t, "Add", types.Add(row(4, "D", "F"), "E"), row(4, "D", "E", "F"))
	wantRow(t, "Add", types.Add(row(4, "E"), "E"), row(4, "E", "E"))
	wantRow(t, "Add", types.Add(row(0, "E"), "console"), row(0, "E", "console"))
	for _, x := range []struct {
		r, want api.Row
		label   string
		there   bool
	}{
		{row(1, "E"), row(1), "E", true}, {row(1, "E", "E"), row(1, "E"), "E", true}, {row(0, "D", "E", "F"), row(0, "D", "F"), "E", true}, {row(0, "D", "E"), row(0, "E"), "D", true},
		{row(1), row(1), "E", false}, {api.Row{}, api.Row{}, "", false}, {row(2, "E", "F"), row(2, "E", "F"), "e", false}, {row(2, "EE"), row(2, "EE"), "E", false}, {row(2, "E"), row(2, "E"), "", false},
	} {
		got, there := types.Less(x.r, x.label)
		wantRow(t, x, got, x.want)
		if there != x.there {
			t.Errorf("%v: %v", x, there)
		}
	}
	for _, x := range []struct {
		r    api.Row
		calm bool
	}{
		{row(0), true}, {row(0, "console"), true}, {row(0, "console", "console"), true}, {row(1), false}, {row(1, "console"), false},
		{row(0, "E"), false}, {row(0, "E", "console"), false}, {row(0, "console", "e"), false}, {row(0, "Console"), false}, {row(0, "consoles"), false},
	} {
		if got := types.Calm(x.r); got != x.calm {
			t.Errorf("%v: %v", x.r, got)
		}
	}
}

// TestRowsLong has many labels, the same ones again and again.
func TestRowsLong(t *testing.T) {
	luck := dice(3)
	for _, count := range []int{100, 5000, 65535, 200000} {
		var r api.Row
		for range count {
			r.Labels = append(r.Labels, luck.pick("E", "F", "console", "D", "E1"))
		}
		sorted := types.Sorted(r)
		if !types.RightRow(sorted) || types.RightRow(r) || len(sorted.Labels) != count || types.Calm(r) {
			t.Fatalf("%d: not right", count)
		}
		more := types.Add(sorted, "E")
		less, there := types.Less(more, "E")
		if !there || len(more.Labels) != count+1 || !types.SameRow(less, sorted) || types.SameRow(less, more) || types.SameRow(r, sorted) {
			t.Fatalf("%d: not the same", count)
		}
	}
}
