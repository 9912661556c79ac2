package infer_test

import (
	"fmt"
	"slices"
	"testing"

	"brocade/api"
	"brocade/infer"
)

// walked is a term with kids and arms at several levels, and the Ats in the order in which they are met.
func walked() (api.Term, []int) {
	at := func(n int, kids ...api.Term) api.Term { return api.Term{Kind: n, At: n, Kids: kids} }
	top := at(1, at(2, at(3), at(4)), at(5), at(6))
	top.Arms = []api.Arm{{Body: at(7, at(8))}, {Body: at(9)}}
	top.Kids[1].Arms = []api.Arm{{Body: at(10)}}
	top.Arms[0].Body.Arms = []api.Arm{{Body: at(11)}, {Body: at(12)}}
	return top, []int{1, 2, 3, 4, 5, 10, 6, 7, 8, 11, 12, 9}
}

// TestWalk: a term, its kids, its arms' bodies, and so on within each, till do answers false.
func TestWalk(t *testing.T) {
	top, order := walked()
	for stop := range len(order) + 1 {
		var met []int
		always := infer.Walk(top, func(t api.Term) bool {
			met = append(met, t.At)
			return len(met) != stop
		})
		if stop == 0 && (!always || !slices.Equal(met, order)) {
			t.Errorf("%v, not %v: %v", met, order, always)
		}
		if stop > 0 && (always || !slices.Equal(met, order[:stop])) {
			t.Errorf("till %d: %v, not %v: %v", stop, met, order[:stop], always)
		}
	}
}

// TestWalkWhole: do is handed whole terms.
func TestWalkWhole(t *testing.T) {
	p := read(t, declarations+"match Cons(1, Nil) { Nil -> e! (); Cons x y -> rec f x = x in handle F f! 1 { return x -> 1; f x k -> 2 } }")
	var want, got []string
	for _, at := range within(&p.Body) {
		want = append(want, fmt.Sprintf("%+v", *at))
	}
	infer.Walk(p.Body, func(t api.Term) bool {
		got = append(got, fmt.Sprintf("%+v", t))
		return true
	})
	if !slices.Equal(got, want) {
		t.Errorf("%q, not %q", got, want)
	}
	if !infer.Walk(api.Term{}, func(api.Term) bool { return true }) || infer.Walk(api.Term{}, func(api.Term) bool { return false }) {
		t.Error("a term of no kind")
	}
}

// TestWalkWrong: no call panics, whatever it is handed, and all end.
func TestWalkWrong(t *testing.T) {
	top, order := walked()
	if infer.Walk(top, nil) {
		t.Error("nothing to do")
	}
	met := 0
	if infer.Walk(top, func(api.Term) bool {
		met++
		if met == 4 {
			panic("four")
		}
		return true
	}) || met != 4 {
		t.Errorf("%d of %d, and no panic", met, len(order))
	}
	self := api.Term{Kind: api.TermApp, Kids: make([]api.Term, 2), Arms: make([]api.Arm, 2)}
	self.Kids[1], self.Arms[0].Body, self.Arms[1].Body = self, self, self
	if infer.Walk(self, func(api.Term) bool { return true }) {
		t.Error("a term within itself has an end")
	}
}
