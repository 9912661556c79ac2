package code

import (
	"iter"

	"brocade/api"
)

// nobody is the name that is never bound.
const nobody = "_"

// parts are the pieces right within a piece, numbered: its kids, and then its arms' bodies.
func parts(c *api.Code) iter.Seq2[int, *api.Code] {
	return func(yield func(int, *api.Code) bool) {
		for n := range c.Kids {
			if !yield(n, &c.Kids[n]) {
				return
			}
		}
		for n := range c.Arms {
			if !yield(len(c.Kids)+n, &c.Arms[n].Body) {
				return
			}
		}
	}
}

// binds is the names that a piece binds in one of its parts.
func binds(c *api.Code, part int) []string {
	if part >= len(c.Kids) {
		return gather(c.Arms[part-len(c.Kids)].Vars...)
	}
	switch c.Kind {
	case api.CodeFun:
		return gather(c.Name)
	case api.CodeLet, api.CodeBind:
		if part == 1 {
			return gather(c.Name)
		}
	case api.CodeRec:
		if part == 0 {
			return gather(c.Name, c.Param)
		}
		return gather(c.Name)
	}
	return nil
}

// gather is those of some names that are bound when they are told.
func gather(names ...string) []string {
	var bound []string
	for _, name := range names {
		if name != nobody {
			bound = append(bound, name)
		}
	}
	return bound
}
