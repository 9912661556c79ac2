package names

import (
	"iter"

	"brocade/api"
)

// nobody is the name that is never bound.
const nobody = "_"

// parts are the terms right within a term, numbered: its kids, and then its arms' bodies.
func parts(t *api.Term) iter.Seq2[int, *api.Term] {
	return func(yield func(int, *api.Term) bool) {
		for n := range t.Kids {
			if !yield(n, &t.Kids[n]) {
				return
			}
		}
		for n := range t.Arms {
			if !yield(len(t.Kids)+n, &t.Arms[n].Body) {
				return
			}
		}
	}
}

// binds is the names that a term binds in one of its parts.
func binds(t *api.Term, part int) []string {
	switch {
	case part >= len(t.Kids):
		return t.Arms[part-len(t.Kids)].Vars
	case t.Kind == api.TermFun, t.Kind == api.TermLet && part == 1, t.Kind == api.TermRec && part == 1:
		return []string{t.Name}
	case t.Kind == api.TermRec && part == 0:
		return []string{t.Name, t.Param}
	}
	return nil
}

// evaluates tells whether one of a term's parts is evaluated when the term is: bodies of functions are later, or never.
func evaluates(t *api.Term, part int) bool {
	switch t.Kind {
	case api.TermVar, api.TermInt, api.TermBool, api.TermUnit, api.TermFun:
		return false
	case api.TermRec:
		return part == 1
	case api.TermMatch:
		return true
	}
	return part < len(t.Kids)
}
