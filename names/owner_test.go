package names_test

import (
	"slices"
	"testing"

	"brocade/api"
	"brocade/names"
)

// TestOwnersHanded: what a call is handed stays as it was (R1).
func TestOwnersHanded(t *testing.T) {
	luck := dice(8)
	for range 500 {
		term := luck.term(5)
		a := arm("ask", app(variable("k"), term), "x", "k")
		kept := copied(term)
		keptVars := slices.Clone(a.Vars)
		names.Free(term)
		names.Uses(term, "x")
		names.Value(term)
		names.Plain(term)
		names.Quiet(term)
		names.Last(a)
		want(t, "term", copied(term), kept)
		want(t, "arm", copied(a.Body.Kids[1]), kept)
		want(t, "vars", a.Vars, keptVars)
	}
}

// TestOwnersAnswers writes over a list that was answered: nothing else changes (R1).
func TestOwnersAnswers(t *testing.T) {
	term := read(t, "match x y { A a b -> a z x; B -> k }")
	kept := copied(term)
	list := names.Free(term)
	over := list[:cap(list)]
	for n := range over {
		over[n] = "over"
	}
	want(t, "term", term, kept)
	want(t, "again", names.Free(term), []string{"k", "x", "y", "z"})
	want(t, "uses", names.Uses(term, "x"), 2)
}

// TestOwnersKeep: a list that was answered stays, whatever becomes of what was handed in.
func TestOwnersKeep(t *testing.T) {
	term := read(t, "Cons(x, Cons(y, let z = k in z))")
	list := names.Free(term)
	for _, at := range within(&term) {
		at.Name = "over"
	}
	want(t, "list", list, []string{"k", "x", "y"})
	want(t, "now", names.Free(term), []string{"over"})
	var nothing api.Term
	want(t, "nothing", len(names.Free(nothing)), 0)
}
