package value

import "brocade/api"

// Same tells whether two are the same (K1).
func Same(a, b api.Value) bool {
	held := alike{}
	todo := []pair{{&a, &b}}
	for len(todo) > 0 {
		p := todo[len(todo)-1]
		todo = todo[:len(todo)-1]
		if !sameAlone(p.a, p.b) {
			return false
		}
		if len(p.a.Kids) == 0 || !held.join(kids(p.a), kids(p.b)) {
			continue
		}
		for i := range p.a.Kids {
			todo = append(todo, pair{&p.a.Kids[i], &p.b.Kids[i]})
		}
	}
	return true
}

// pair is two values that have to be the same.
type pair struct{ a, b *api.Value }

// sameAlone tells whether two values are the same if their kids are.
func sameAlone(a, b *api.Value) bool {
	return a.Kind == b.Kind && a.N == b.N && a.Name == b.Name && len(a.Kids) == len(b.Kids)
}

// alike leads from list to list: those that end at the same one are held to have the same items.
// What follows from others is not asked again, so that the call ends whatever lists stand in each other.
type alike map[list]list

// join holds two lists to have the same items, and tells whether that does not follow from others.
func (l alike) join(a, b list) bool {
	a, b = l.end(a), l.end(b)
	if a == b {
		return false
	}
	l[a] = b
	return true
}

func (l alike) end(at list) list {
	for {
		next, known := l[at]
		if !known {
			return at
		}
		if beyond, known := l[next]; known {
			l[at] = beyond // who comes this way again has a shorter one
		}
		at = next
	}
}
