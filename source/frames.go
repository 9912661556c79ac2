package source

import "brocade/api"

// frame is what waits for a value: it is asked what becomes of it. It is off the stack by then.
type frame interface {
	take(m *machine, v computed)
}

// argument waits for a function, ahead of what that is called with.
type argument struct {
	of  *api.Term
	env *binding
}

func (f *argument) take(m *machine, v computed) {
	m.push(&called{v})
	m.at(f.of, f.env)
}

// called waits for what a function is called with.
type called struct{ function computed }

func (f *called) take(m *machine, v computed) {
	if f.function.kind != api.ValFun {
		m.end(api.OutStuck)
		return
	}
	f.function.fun.call(m, v)
}

// named waits for what a name is.
type named struct {
	name  string
	where *api.Term
	env   *binding
}

func (f *named) take(m *machine, v computed) { m.at(f.where, f.env.with(f.name, v)) }

// choice waits for a condition.
type choice struct {
	yes, no *api.Term
	env     *binding
}

func (f *choice) take(m *machine, v computed) {
	switch {
	case v.kind != api.ValBool:
		m.end(api.OutStuck)
	case v.n == 1:
		m.at(f.yes, f.env)
	default:
		m.at(f.no, f.env)
	}
}

// matching waits for what is looked at.
type matching struct {
	arms []api.Arm
	env  *binding
}

func (f *matching) take(m *machine, v computed) {
	for n := range f.arms {
		arm := &f.arms[n]
		if v.con == nil || arm.Name != v.con.name || len(arm.Vars) != len(v.con.kids) {
			continue
		}
		env := f.env
		for i, name := range arm.Vars {
			env = env.with(name, v.con.kids[i])
		}
		m.at(&arm.Body, env)
		return
	}
	m.end(api.OutStuck)
}

// asking waits for what an operation is asked with.
type asking struct{ op string }

func (f *asking) take(m *machine, v computed) {
	taken, clause := m.cut(f.op)
	if clause == nil {
		m.end(api.OutStuck)
		return
	}
	m.konts++
	env := taken[len(taken)-1].handler.env.with(clause.Vars[0], v)
	m.at(&clause.Body, env.with(clause.Vars[1], fun(taken)))
}

// handler waits for the value of what is handled.
type handler struct {
	arms []api.Arm
	env  *binding
}

func (h *handler) take(m *machine, v computed) {
	first := &h.arms[0]
	m.at(&first.Body, h.env.with(first.Vars[0], v))
}

// clause is what a handler does for an operation; nil, if it has none for it.
func (h *handler) clause(op string) *api.Arm {
	for n := range h.arms {
		if arm := &h.arms[n]; n > 0 && arm.Name == op && len(arm.Vars) == 2 {
			return arm
		}
	}
	return nil
}
