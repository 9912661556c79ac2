package subst

import (
	"maps"
	"slices"
)

// said is what is said of variables, in layers, the newest one last.
// No layer is written to once it is made, so many a said may have it; and each one is more than twice
// as large as the next, so there are few, and to say something more seldom means to copy much.
type said[V any] struct{ layers []map[int]V }

// of is what is said of a variable, and whether something is.
func (s said[V]) of(n int) (V, bool) {
	for _, layer := range slices.Backward(s.layers) {
		if v, known := layer[n]; known {
			return v, true
		}
	}
	var nothing V
	return nothing, false
}

// and says v of a variable, and of all others what s says.
func (s said[V]) and(n int, v V) said[V] {
	newest, keep := map[int]V{n: v}, len(s.layers)
	for keep > 0 && len(s.layers[keep-1]) <= 2*len(newest) {
		keep--
		newest = merged(s.layers[keep], newest)
	}
	return said[V]{layers: slices.Concat(s.layers[:keep], []map[int]V{newest})}
}

// then says of each variable of which s says something what becomes of that, and of each other one what t says.
func (s said[V]) then(t said[V], become func(V) V) said[V] {
	out := merged(t.layers...)
	for n, v := range merged(s.layers...) {
		out[n] = become(v)
	}
	return said[V]{layers: []map[int]V{out}}
}

// vars are the variables of which something is said, rising.
func (s said[V]) vars() []int { return slices.Sorted(maps.Keys(merged(s.layers...))) }

// merged is a new layer that says what some layers say, the later ones in the stead of those ahead.
func merged[V any](layers ...map[int]V) map[int]V {
	out := map[int]V{}
	for _, layer := range layers {
		maps.Copy(out, layer)
	}
	return out
}
