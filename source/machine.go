package source

import (
	"slices"

	"brocade/api"
)

// machine is what runs a program. It reads its terms and its input where they lie, and writes to neither.
type machine struct {
	term  *api.Term // what it is at; nil, if that is a value
	env   *binding  // that of the term
	value computed
	stack
	cells        []computed
	input        []int // what is left to read
	trace        []int
	outcome      int // OutMore as long as it goes on
	steps, konts int
}

// begin is a machine ahead of its first step.
func begin(body *api.Term, input []int) *machine {
	return &machine{term: body, input: input}
}

// step does one, and tells whether there was one to do.
func (m *machine) step() bool {
	if m.outcome != api.OutMore {
		return false
	}
	m.steps++
	if m.term != nil {
		m.enter(m.term)
	} else {
		m.pop().take(m, m.value)
	}
	if m.outcome == api.OutMore && m.term == nil && m.empty() {
		m.outcome = api.OutValue
	}
	return true
}

// at makes a term with an environment what the machine is at.
func (m *machine) at(t *api.Term, env *binding) { m.term, m.env = t, env }

// answer makes a value what the machine is at.
func (m *machine) answer(v computed) { m.term, m.env, m.value = nil, nil, v }

// end ends the machine otherwise than with a value.
func (m *machine) end(outcome int) { m.outcome = outcome }

// told is how the machine is.
func (m *machine) told() api.Run {
	out := api.Run{Trace: slices.Clone(m.trace), Steps: m.steps, Konts: m.konts}
	out.Outcome.Kind = m.outcome
	if m.outcome == api.OutValue {
		out.Outcome.Value = m.value.told()
	}
	return out
}
