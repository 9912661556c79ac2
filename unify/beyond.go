package unify

import "brocade/api"

// deepest is how deep in what is handed in two types are looked at: right types are at most MaxDeep deep, and
// so is what is said of their variables, so both together stay above it. What still goes on below it may have
// no end: a type that stands within itself, or a variable that stands in what is said of it.
const deepest = 2 * api.MaxDeep

// beyond tells whether a type is deeper than most.
func beyond(t api.Type, most int) bool {
	if pieces(t, most) <= most {
		return false // it has no more levels than pieces
	}
	return heights{}.of(&t, most) > most
}

// heights are how deep types are, by their places, so that types that have lists together are not
// gone through again and again.
type heights map[*api.Type]int

// of is how deep a type is; of one that is deeper than most, some number above most.
func (h heights) of(t *api.Type, most int) int {
	height, known := h[t]
	switch {
	case known:
		return height
	case most <= 0:
		return deepest + 1 // enough, wherever it is added to
	}
	for i := range t.Args {
		height = max(height, h.of(&t.Args[i], most-1))
	}
	h[t] = height + 1
	return height + 1
}
