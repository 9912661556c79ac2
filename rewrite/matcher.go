package rewrite

import "brocade/api"

// pair is two terms, at the same place.
type pair struct{ left, right *api.Term }

// matcher holds two terms against each other, place by place.
type matcher struct {
	*book
	left, right bound
	count       int  // how many names it numbered, on either side
	free        free // in the places where it was
}

func newMatcher(b *book) *matcher {
	return &matcher{book: b, left: bound{}, right: bound{}, free: free{}}
}

// terms holds two terms against each other, or looks up what is free in them.
func (m *matcher) terms(p pair) {
	if !m.again(p) {
		m.alone(p)
		return
	}
	m.later(func() {
		for v := range m.known[p] {
			m.variables(v)
		}
	})
	m.learn(p)
}

// alone holds two terms against each other, whether or not they were met ahead. Those within them are still to do.
func (m *matcher) alone(p pair) {
	a, b := p.left, p.right
	if looks(a) != looks(b) {
		m.end()
		return
	}
	for n := range a.Arms {
		m.later(func() { m.arms(&a.Arms[n], &b.Arms[n]) })
	}
	left, right := binds(a), binds(b)
	for n := range a.Kids {
		count := reach(a, n)
		m.later(func() { m.within(pair{&a.Kids[n], &b.Kids[n]}, left[:count], right[:count]) })
	}
	if a.Kind == api.TermVar {
		m.variables(variables{a.Name, b.Name})
	}
}

func (m *matcher) arms(a, b *api.Arm) {
	if a.Name != b.Name || len(a.Vars) != len(b.Vars) {
		m.end()
		return
	}
	m.within(pair{&a.Body, &b.Body}, a.Vars, b.Vars)
}

// within is terms, where some more names are bound, on either side as many.
func (m *matcher) within(p pair, left, right []string) {
	m.left.enter(m.count+1, left...)
	m.right.enter(m.count+1, right...)
	m.count += len(left)
	m.later(func() {
		m.left.leave(left...)
		m.right.leave(right...)
	})
	m.terms(p)
}

// variables holds two variables against each other: the same place binds both, or both are free.
func (m *matcher) variables(v variables) {
	left, right := m.left.number(v.left), m.right.number(v.right)
	if left != right {
		m.end()
	} else if left == 0 {
		m.free[v] = struct{}{}
	}
}

// look is what a term is, but for the names that are bound and for what is within it. Names of variables are not in it.
type look struct {
	kind, n     int
	name, param string
	kids, arms  int
}

func looks(t *api.Term) look {
	l := look{t.Kind, t.N, t.Name, t.Param, len(t.Kids), len(t.Arms)}
	switch t.Kind {
	case api.TermRec:
		l.name, l.param = "", ""
	case api.TermVar, api.TermFun, api.TermLet:
		l.name = ""
	}
	return l
}
