package infer

import "brocade/api"

// deepest is as many levels as something is promised of. Terms that stand within themselves have more.
const deepest = 1 << 16

// Walk calls do of a term and of all within it, as long as do answers true (I2).
// What makes do panic, or is too deep, was not true.
func Walk(t api.Term, do func(t api.Term) bool) (all bool) {
	defer func() {
		if recover() != nil {
			all = false
		}
	}()
	return walk(&t, deepest, func(t *api.Term) bool { return do(*t) })
}

// walk calls do of a term and of all within it, down so many levels, as long as do answers true.
func walk(t *api.Term, levels int, do func(t *api.Term) bool) bool {
	if levels == 0 || !do(t) {
		return false
	}
	for i := range t.Kids {
		if !walk(&t.Kids[i], levels-1, do) {
			return false
		}
	}
	for i := range t.Arms {
		if !walk(&t.Arms[i].Body, levels-1, do) {
			return false
		}
	}
	return true
}
