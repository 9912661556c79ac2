package value_test

import (
	"math"
	"testing"

	"brocade/api"
	"brocade/value"
)

// slowSame tells whether two values are the same, another way than package value.
func slowSame(a, b api.Value) bool {
	same := a.Kind == b.Kind && a.N == b.N && a.Name == b.Name && len(a.Kids) == len(b.Kids)
	for i := 0; same && i < len(a.Kids); i++ {
		same = slowSame(a.Kids[i], b.Kids[i])
	}
	return same
}

func wantSame(t *testing.T, a, b api.Value, same bool) {
	t.Helper()
	if value.Same(a, b) != same || value.Same(b, a) != same {
		t.Fatalf("%.300s and %.300s: %v and %v", brief(a), brief(b), value.Same(a, b), value.Same(b, a))
	}
}

// samples are unlike values, right or not, each of which differs from another one in one field alone.
func samples() []api.Value {
	out := []api.Value{{}, {Kind: -1}, {Kind: 7}, {Name: "A"}, {N: 1}, {Kids: []api.Value{{}}}, {Kids: []api.Value{{}, {}}}}
	for kind := 1; kind <= 6; kind++ {
		for _, name := range []string{"", "A", "B", "a", "A ", "AB"} {
			for _, n := range []int{0, 1, 2, -1, math.MaxInt, math.MinInt} {
				out = append(out, api.Value{Kind: kind, Name: name, N: n})
			}
		}
	}
	a, b := con("A"), con("B")
	for _, kids := range [][]api.Value{{a}, {b}, {a, a}, {a, b}, {b, a}, {a, a, a}, {a, b, a}, {number(1)}, {number(2)}, {truth(1)}, {ref(1)}, {fun()}, {unit()}, {{}}, {con("A", a)}, {con("A", b)}, {con("A", a, a)}, {con("A", a), a}, {a, con("A", a)}, {con("A", con("A", a))}} {
		out = append(out, con("A", kids...), con("B", kids...), api.Value{Kind: 4, Name: "A", N: 1, Kids: kids}, api.Value{Kind: 1, Kids: kids}, api.Value{Kind: 6, Kids: kids})
	}
	return out
}

// TestSame holds each of some values against each.
func TestSame(t *testing.T) {
	all := samples()
	for i, a := range all {
		for j, b := range all {
			for room := range 2 { // without items, lists are nil or empty
				wantSame(t, a, own(b, room), i == j)
				wantSame(t, own(a, 1-room), own(b, room), i == j)
			}
		}
	}
}

// TestSameDeep has values that are unlike in one place alone, which is deep within.
func TestSameDeep(t *testing.T) {
	all := samples()
	for _, way := range ways() {
		for _, deep := range []int{1, 7, 999, 1000, 3000} {
			for i := 0; i < len(all); i += 9 {
				a, b, c := all[i], own(all[i], 1), all[(i+1)%len(all)]
				for range deep {
					a, b, c = way(a), way(b), way(c)
				}
				wantSame(t, a, b, true)
				wantSame(t, a, c, false)
				wantSame(t, b, c, false)
				wantSame(t, a, way(b), false)
			}
		}
	}
}

// TestSamePlaces has values in which one and the same thing stands in many places, and others where it doesn't.
func TestSamePlaces(t *testing.T) {
	leaves := []api.Value{number(1), con("A"), con("A", number(1)), con("A", con("A"))}
	var all []api.Value
	for _, a := range leaves {
		for _, b := range leaves {
			for _, c := range leaves {
				shared := con("S", a, b)
				all = append(all, con("T", shared, shared, con("S", b, c)), con("T", con("S", a, b), con("S", a, b), con("S", b, c)), con("T", shared, con("S", c, b), shared))
			}
		}
	}
	for _, a := range all {
		for _, b := range all {
			wantSame(t, a, b, slowSame(a, b))
		}
	}
}
