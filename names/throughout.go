package names

import (
	"slices"

	"brocade/api"
)

// value tells whether a term is a value, if all is that is evaluated within it.
func value(t *api.Term) bool {
	switch t.Kind {
	case api.TermVar, api.TermInt, api.TermBool, api.TermUnit, api.TermFun, api.TermCon:
		return true
	}
	return false
}

// plain tells whether a term is plain, if all is that is evaluated within it.
func plain(t *api.Term) bool {
	switch t.Kind {
	case api.TermApp, api.TermDo, api.TermHandle:
		return false
	}
	return true
}

// throughout tells whether something holds of a term, and of all that is evaluated within it, level by level.
func throughout(t *api.Term, holds func(t *api.Term) bool) bool {
	var m met
	level := []*api.Term{t}
	for len(level) > 0 && all(holds, level...) {
		level = m.below(level...)
	}
	return len(level) == 0
}

// all tells whether something holds of all of some terms.
func all(holds func(t *api.Term) bool, terms ...*api.Term) bool {
	return !slices.ContainsFunc(terms, func(t *api.Term) bool { return !holds(t) })
}

// below is what is evaluated right within some terms, but for what was met ahead.
func (m *met) below(terms ...*api.Term) []*api.Term {
	var out []*api.Term
	for _, t := range terms {
		for n, part := range parts(t) {
			if evaluates(t, n) && !m.again(part) {
				out = append(out, part)
			}
		}
	}
	return out
}
