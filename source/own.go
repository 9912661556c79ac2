package source

import (
	"slices"

	"brocade/api"
)

// own is a term with lists of its own, without what was inferred: who owns the other one may write over it.
func own(t *api.Term) *api.Term {
	out := *t
	o := owner{map[list[api.Term]][]api.Term{}, map[list[api.Arm]][]api.Arm{}, []*api.Term{&out}}
	for len(o.todo) > 0 {
		next := o.todo[len(o.todo)-1]
		o.todo = o.todo[:len(o.todo)-1]
		o.take(next)
	}
	return &out
}

// owner copies lists, each of them once, wherever it stands: so that what stands in many places is no more than it
// was, and what stands within itself has an end.
type owner struct {
	kids map[list[api.Term]][]api.Term
	arms map[list[api.Arm]][]api.Arm
	todo []*api.Term // terms that still have lists of the other one
}

// list is a list by where it lies.
type list[A any] struct {
	first *A
	count int
}

// take gives a term lists of its own.
func (o *owner) take(t *api.Term) {
	t.Type, t.Row, t.Own = api.Type{}, api.Row{}, api.Type{}
	var fresh bool
	if t.Kids, fresh = copied(o.kids, t.Kids); fresh {
		for n := range t.Kids {
			o.todo = append(o.todo, &t.Kids[n])
		}
	}
	if t.Arms, fresh = copied(o.arms, t.Arms); fresh {
		for n := range t.Arms {
			t.Arms[n].Vars = slices.Clone(t.Arms[n].Vars)
			o.todo = append(o.todo, &t.Arms[n].Body)
		}
	}
}

// copied is the copy of a list, and whether it was made just now.
func copied[A any](known map[list[A]][]A, l []A) ([]A, bool) {
	if len(l) == 0 {
		return nil, false
	}
	at := list[A]{&l[0], len(l)}
	if out, made := known[at]; made {
		return out, false
	}
	known[at] = slices.Clone(l)
	return known[at], true
}
