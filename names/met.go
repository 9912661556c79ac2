package names

import "brocade/api"

// unmarked is how many terms are met ahead of the first one that is marked: to mark them is dear, and most terms have
// no more within them. It is also as many levels as something is promised of.
const unmarked = 1 << 16

// met marks terms, so that those that have lists together, or that stand within themselves, are not gone through
// again and again.
type met struct {
	count int
	marks map[*api.Term]struct{}
}

// again tells whether a term is marked; else it is from now on. Those without parts need no mark.
func (m *met) again(t *api.Term) bool {
	if len(t.Kids)+len(t.Arms) == 0 {
		return false
	}
	if m.count++; m.count <= unmarked {
		return false
	}
	if _, marked := m.marks[t]; marked {
		return true
	}
	if m.marks == nil {
		m.marks = map[*api.Term]struct{}{}
	}
	m.marks[t] = struct{}{}
	return false
}
