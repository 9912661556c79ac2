package check

import (
	"iter"

	"brocade/api"
)

// checker looks for the first term whose own share of the rules is not right.
type checker struct {
	environment
	declared
}

func newChecker(p api.Program) *checker {
	return &checker{environment: newEnvironment(), declared: declare(p)}
}

// wrong is the first one, of a term and those within it, whose own share is not right; nil if there is none.
func (c *checker) wrong(t *api.Term) *api.Term {
	if !c.right(t) {
		return t
	}
	for part, names := range c.parts(t) {
		c.tell(names)
		wrong := c.wrong(part)
		c.forget(names)
		if wrong != nil {
			return wrong
		}
	}
	return nil
}

// parts are the terms right within a term, its kids ahead of its arms' bodies, each with the names that are told there.
func (c *checker) parts(t *api.Term) iter.Seq2[*api.Term, []told] {
	return func(yield func(*api.Term, []told) bool) {
		for n := range t.Kids {
			if !yield(&t.Kids[n], c.toldInKid(t, n)) {
				return
			}
		}
		for n := range t.Arms {
			if !yield(&t.Arms[n].Body, c.toldInArm(t, n)) {
				return
			}
		}
	}
}

// toldInKid is the names that are told in a term's kid.
func (c *checker) toldInKid(t *api.Term, kid int) []told {
	switch {
	case t.Kind == api.TermFun:
		return []told{bare(t.Name, t.Type.Args[0])}
	case t.Kind == api.TermLet && kid == 1 && value(&t.Kids[0]):
		return []told{named(t.Name, c.general(t.Kids[0].Type))}
	case t.Kind == api.TermLet && kid == 1:
		return []told{bare(t.Name, t.Kids[0].Type)}
	case t.Kind == api.TermRec && kid == 0:
		return []told{bare(t.Name, t.Own), bare(t.Param, t.Own.Args[0])}
	case t.Kind == api.TermRec:
		return []told{named(t.Name, c.general(t.Own))}
	}
	return nil
}

// toldInArm is the names that are told in the body of a term's arm.
func (c *checker) toldInArm(t *api.Term, arm int) []told {
	of := c.armTypes(t, arm)
	names := make([]told, len(of))
	for n, name := range t.Arms[arm].Vars {
		names[n] = bare(name, of[n])
	}
	return names
}

// armTypes is the types of the names of a term's arm.
func (c *checker) armTypes(t *api.Term, arm int) []api.Type {
	switch name := t.Arms[arm].Name; {
	case t.Kind == api.TermMatch:
		return c.cons[name].takes
	case arm == 0:
		return []api.Type{t.Kids[0].Type}
	default:
		op := c.ops[name]
		return []api.Type{op.takes[0], function(op.answers, t.Row, t.Type)}
	}
}

// value tells whether the type of what let gives a name is generalized.
func value(t *api.Term) bool {
	switch t.Kind {
	case api.TermVar, api.TermInt, api.TermBool, api.TermUnit, api.TermFun:
		return true
	case api.TermCon:
		for n := range t.Kids {
			if !value(&t.Kids[n]) {
				return false
			}
		}
		return true
	}
	return false
}
