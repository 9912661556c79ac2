package rewrite

import "brocade/api"

// mostTerms is more terms than there is room for in an answer of which something is promised (2^31 - 1 bytes). Terms
// that have lists together again and again are more, told apart, and so are those that stand within themselves.
const mostTerms = 1 << 23

// countable tells whether a term is not too many terms.
func countable(t *api.Term) bool {
	todo := []*api.Term{t}
	for room := mostTerms; len(todo) > 0; {
		last := len(todo) - 1
		t, todo = todo[last], todo[:last]
		if room -= len(t.Kids) + len(t.Arms); room < 0 {
			return false
		}
		for n := range t.Kids {
			todo = append(todo, &t.Kids[n])
		}
		for n := range t.Arms {
			todo = append(todo, &t.Arms[n].Body)
		}
	}
	return true
}
