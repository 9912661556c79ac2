package types

import "brocade/api"

// Vars is the type variables and the row variables of a type, in the order in which they first stand there (D2).
func Vars(t api.Type) ([]int, []int) {
	g := gatherer{seen: seen{}, types: numbers{known: map[int]struct{}{}}, rows: numbers{known: map[int]struct{}{}}}
	g.gather(&t)
	return g.types.list, g.rows.list
}

// gatherer gathers the variables of types.
type gatherer struct {
	seen        seen
	types, rows numbers
}

func (g *gatherer) gather(t *api.Type) {
	if !g.seen.first(t) {
		return
	}
	if t.Kind == api.TypVar {
		g.types.add(t.Var)
	}
	for i := range t.Args {
		g.gather(&t.Args[i])
		if i == 0 && t.Row.Var != 0 { // a function's row stands behind what it takes
			g.rows.add(t.Row.Var)
		}
	}
}

// numbers is a list of numbers, each once.
type numbers struct {
	known map[int]struct{}
	list  []int
}

func (n *numbers) add(number int) {
	if _, known := n.known[number]; !known {
		n.known[number] = struct{}{}
		n.list = append(n.list, number)
	}
}
