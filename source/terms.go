package source

import "brocade/api"

// complete tells whether a term has what its step, and those that it leaves to frames, need.
func complete(t *api.Term) bool {
	switch t.Kind {
	case api.TermVar, api.TermInt, api.TermBool, api.TermUnit, api.TermCon:
		return true
	case api.TermFun, api.TermMatch, api.TermDo:
		return len(t.Kids) >= 1
	case api.TermApp, api.TermLet, api.TermRec:
		return len(t.Kids) >= 2
	case api.TermIf:
		return len(t.Kids) >= 3
	case api.TermOp:
		count, known := arguments(t.Name)
		return known && len(t.Kids) == count
	case api.TermHandle:
		return len(t.Kids) >= 1 && len(t.Arms) >= 1 && len(t.Arms[0].Vars) >= 1
	}
	return false
}

// enter does the step at a term.
func (m *machine) enter(t *api.Term) {
	if !complete(t) {
		m.end(api.OutStuck)
		return
	}
	switch t.Kind {
	case api.TermVar:
		m.look(t.Name)
	case api.TermInt:
		m.answer(number(t.N))
	case api.TermBool:
		m.answer(truth(t.N & 1))
	case api.TermUnit:
		m.answer(unit())
	case api.TermFun:
		m.answer(fun(&closure{param: t.Name, body: &t.Kids[0], env: m.env}))
	case api.TermRec:
		f := &closure{own: t.Name, param: t.Param, body: &t.Kids[0], env: m.env}
		m.at(&t.Kids[1], m.env.with(t.Name, fun(f)))
	case api.TermOp, api.TermCon:
		m.gather(&gathering{of: t, env: m.env})
	case api.TermHandle:
		m.enclose(&handler{t.Arms, m.env})
		m.at(&t.Kids[0], m.env)
	default:
		m.push(m.waits(t))
		m.at(&t.Kids[0], m.env)
	}
}

// waits is the frame of a term that waits for its first kid, and is no operator, constructor or handler.
func (m *machine) waits(t *api.Term) frame {
	switch t.Kind {
	case api.TermApp:
		return &argument{&t.Kids[1], m.env}
	case api.TermLet:
		return &named{t.Name, &t.Kids[1], m.env}
	case api.TermIf:
		return &choice{&t.Kids[1], &t.Kids[2], m.env}
	case api.TermMatch:
		return &matching{t.Arms, m.env}
	}
	return &asking{t.Name}
}

// look goes on with the value of a name.
func (m *machine) look(name string) {
	v, known := m.env.find(name)
	if !known {
		m.end(api.OutStuck)
		return
	}
	m.answer(v)
}
