package check

import (
	"slices"

	"brocade/api"
	"brocade/scheme"
	"brocade/types"
)

// nobody is the name that is never told.
const nobody = "_"

// environment tells of names their schemes. It counts in how many of these a variable is free, so that
// generalizing costs the same, however many names are told.
type environment struct {
	names       map[string]*told
	kinds, rows counts
}

// told is a name that is told, with its scheme.
type told struct {
	scheme.Scheme
	name        string
	kinds, rows []int // free in the scheme
	outer       *told // what is told of the name around
}

func newEnvironment() environment {
	return environment{names: map[string]*told{}, kinds: counts{}, rows: counts{}}
}

func named(name string, s scheme.Scheme) told {
	kinds, rows := scheme.Free(s)
	return told{Scheme: s, name: name, kinds: kinds, rows: rows}
}

func bare(name string, t api.Type) told { return named(name, scheme.Bare(t)) }

// tell tells names anew, one after the other.
func (e *environment) tell(names []told) {
	for i := range names {
		if n := &names[i]; n.name != nobody {
			n.outer = e.names[n.name]
			e.turn(n.name, n)
		}
	}
}

// forget lets names that were told last be told as ahead of that.
func (e *environment) forget(names []told) {
	for _, n := range slices.Backward(names) {
		if n.name != nobody {
			e.turn(n.name, n.outer)
		}
	}
}

// turn lets a name be told otherwise; by nil, not at all.
func (e *environment) turn(name string, to *told) {
	e.count(e.names[name], -1)
	e.count(to, 1)
	e.names[name] = to
}

func (e *environment) count(n *told, more int) {
	if n != nil {
		e.kinds.add(more, n.kinds)
		e.rows.add(more, n.rows)
	}
}

// schemeOf is the scheme of a name that is told.
func (e *environment) schemeOf(name string) scheme.Scheme { return e.names[name].Scheme }

// general is a type generalized over all that is told.
func (e *environment) general(t api.Type) scheme.Scheme {
	kinds, rows := types.Vars(t)
	return scheme.Scheme{
		Types: slices.DeleteFunc(kinds, e.kinds.has),
		Rows:  slices.DeleteFunc(rows, e.rows.has),
		Type:  t,
	}
}

// counts is how often there are some variables, all of types or all of rows.
type counts map[int]int

func (c counts) add(more int, variables []int) {
	for _, n := range variables {
		c[n] += more
	}
}

func (c counts) has(n int) bool { return c[n] > 0 }
