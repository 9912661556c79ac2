package types

import (
	"slices"

	"brocade/api"
)

// SameRow tells whether two rows are the same, field by field (D1).
func SameRow(a, b api.Row) bool {
	return a.Var == b.Var && slices.Equal(a.Labels, b.Labels)
}

// Same tells whether two types are the same, field by field (D1).
func Same(a, b api.Type) bool {
	held := alike{}
	todo := []pair{{&a, &b}}
	for len(todo) > 0 {
		p := todo[len(todo)-1]
		todo = todo[:len(todo)-1]
		if !held.join(p) {
			continue
		}
		if !sameAlone(p.a, p.b) {
			return false
		}
		for i := range p.a.Args {
			todo = append(todo, pair{&p.a.Args[i], &p.b.Args[i]})
		}
	}
	return true
}

// sameAlone tells whether two types are the same if their Args are.
func sameAlone(a, b *api.Type) bool {
	return a.Kind == b.Kind && a.Name == b.Name && a.Var == b.Var &&
		len(a.Args) == len(b.Args) && SameRow(a.Row, b.Row)
}

// pair is two places that have to be the same.
type pair struct{ a, b *api.Type }

// alike leads from place to place: those that end at the same one are held to be the same.
// What follows from others is not asked again: so even types that have lists together,
// or that stand within themselves, are compared in no more steps than there are places in both.
type alike map[*api.Type]*api.Type

// join holds two places to be the same, and tells whether that does not follow from others.
func (l alike) join(p pair) bool {
	a, b := l.end(p.a), l.end(p.b)
	if a == b {
		return false
	}
	l[a] = b
	return true
}

func (l alike) end(t *api.Type) *api.Type {
	for l[t] != nil {
		if beyond := l[l[t]]; beyond != nil {
			l[t] = beyond // who comes this way again has a shorter one
		}
		t = l[t]
	}
	return t
}
