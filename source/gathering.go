package source

import "brocade/api"

// gathering waits for the value of one more kid of an operator or a constructor. Resumptions may go on from it
// several times, so that it is never written to: who has one value more is another one.
type gathering struct {
	of    *api.Term
	env   *binding
	count int      // how many values there are
	last  *reached // the last one of these; nil, if there is none
}

// reached is a value, and those of the kids ahead.
type reached struct {
	value computed
	ahead *reached
}

func (g *gathering) take(m *machine, v computed) {
	m.gather(&gathering{g.of, g.env, g.count + 1, &reached{v, g.last}})
}

// all is the values, the first kid's first.
func (g *gathering) all() []computed {
	out := make([]computed, g.count)
	for n, last := g.count, g.last; last != nil; last = last.ahead {
		n--
		out[n] = last.value
	}
	return out
}

// gather goes on with the next kid of an operator or a constructor, or, with none left, with what it makes.
func (m *machine) gather(g *gathering) {
	switch {
	case g.count < len(g.of.Kids):
		m.push(g)
		m.at(&g.of.Kids[g.count], g.env)
	case g.of.Kind == api.TermCon:
		m.answer(con(g.of.Name, g.all()))
	default:
		m.operate(g.of.Name, g.all())
	}
}
