package parse

import "brocade/api"

// deepest is what Depth answers of all that is as deep, or deeper.
const deepest = 1000

// Depth is how deep a term is (B3).
func Depth(t api.Term) int {
	deep := 1
	for level := below(&t); len(level) > 0 && deep < deepest; level = below(level...) {
		deep++
	}
	return deep
}

// below is what stands right below some terms, each place once: so terms that have lists together,
// or that stand within themselves, are not gone through again and again.
func below(terms ...*api.Term) []*api.Term {
	seen := map[*api.Term]struct{}{}
	var out []*api.Term
	add := func(t *api.Term) {
		if _, known := seen[t]; !known {
			seen[t] = struct{}{}
			out = append(out, t)
		}
	}
	for _, t := range terms {
		for i := range t.Kids {
			add(&t.Kids[i])
		}
		for i := range t.Arms {
			add(&t.Arms[i].Body)
		}
	}
	return out
}
