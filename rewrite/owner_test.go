package rewrite_test

import (
	"testing"

	"brocade/api"
	"brocade/rewrite"
)

// TestOwnersHanded: what a call is handed stays as it was (R1).
func TestOwnersHanded(t *testing.T) {
	luck := dice(10)
	for range 500 {
		a, b := luck.term(5), luck.term(5)
		keptA, keptB := copied(a), copied(b)
		rewrite.Apart(a)
		rewrite.Alike(a, b)
		rewrite.Alike(a, rewrite.Apart(a))
		want(t, "a", a, keptA)
		want(t, "b", b, keptB)
	}
}

// over writes over all terms and arms within a term, as far as their lists reach.
func over(t *api.Term) {
	for _, place := range places(t) {
		over(place)
	}
	kids, arms := t.Kids[:cap(t.Kids)], t.Arms[:cap(t.Arms)]
	for n := range kids {
		kids[n] = variable("over")
	}
	for n := range arms {
		vars := arms[n].Vars[:cap(arms[n].Vars)]
		for v := range vars {
			vars[v] = "over"
		}
		arms[n] = arm("over", variable("over"))
	}
	*t = variable("over")
}

// TestOwnersAnswers writes over what was answered: nothing else changes (R1).
func TestOwnersAnswers(t *testing.T) {
	luck := dice(11)
	for range 500 {
		term := luck.term(5)
		kept := copied(term)
		apart := rewrite.Apart(term)
		again := copied(apart)
		over(&apart)
		want(t, "term", term, kept)
		want(t, "again", rewrite.Apart(term), again)
	}
}

// TestOwnersKeep: what was answered stays, whatever becomes of what was handed in.
func TestOwnersKeep(t *testing.T) {
	luck := dice(12)
	for range 500 {
		term := luck.term(5)
		apart := rewrite.Apart(term)
		kept := copied(apart)
		over(&term)
		want(t, "apart", apart, kept)
	}
}

// TestOwnersLists: no two lists of terms, arms or names in an answer are one, though they were one when they were handed in.
func TestOwnersLists(t *testing.T) {
	term := match(variable("x"), arm("A", variable("y"), "x", "y"))
	for range 3 {
		term = pair(term, match(term, arm("A", term, term.Name)))
	}
	apart := rewrite.Apart(term)
	kids, arms, vars := map[*api.Term]int{}, map[*api.Arm]int{}, map[*string]int{}
	for _, at := range within(&apart) {
		if len(at.Kids) > 0 {
			kids[&at.Kids[0]]++
		}
		if len(at.Arms) > 0 {
			arms[&at.Arms[0]]++
		}
		for n := range at.Arms {
			if len(at.Arms[n].Vars) > 0 {
				vars[&at.Arms[n].Vars[0]]++
			}
		}
	}
	for _, count := range kids {
		want(t, "kids", count, 1)
	}
	for _, count := range arms {
		want(t, "arms", count, 1)
	}
	for _, count := range vars {
		want(t, "vars", count, 1)
	}
	want(t, "all", []bool{len(kids) > 20, len(arms) > 20, len(vars) > 20}, []bool{true, true, true})
}
