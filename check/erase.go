package check

import (
	"slices"

	"brocade/api"
)

// Erase is a program without the types and rows in its terms (J2).
func Erase(p api.Program) api.Program {
	out := declarations(p)
	out.Body = p.Body
	var e eraser
	if !countable(&p.Body) {
		e = eraser{kids: copies[api.Term]{}, arms: copies[api.Arm]{}}
	}
	e.whole(&out.Body)
	return out
}

// declarations is a program's declarations, with lists of their own.
func declarations(p api.Program) api.Program {
	out := api.Program{Effects: slices.Clone(p.Effects), Datas: slices.Clone(p.Datas)}
	for n := range out.Effects {
		effect := &out.Effects[n]
		effect.Ops = slices.Clone(effect.Ops)
	}
	for n := range out.Datas {
		data := &out.Datas[n]
		data.Cons = slices.Clone(data.Cons)
		for i := range data.Cons {
			data.Cons[i].Fields = slices.Clone(data.Cons[i].Fields)
		}
	}
	return out
}

// eraser takes types and rows away from terms. Of terms that are too many, or within themselves, each list is made
// once: one that stands in many places, or within itself, does so again.
type eraser struct {
	kids copies[api.Term]
	arms copies[api.Arm]
	todo []*api.Term
}

// whole takes types and rows away from a term and from all within it, list by list, so that it may be as deep as it likes.
func (e *eraser) whole(body *api.Term) {
	e.todo = []*api.Term{body}
	for len(e.todo) > 0 {
		t := e.todo[len(e.todo)-1]
		e.todo = e.todo[:len(e.todo)-1]
		e.term(t)
	}
}

// term takes types and rows away from a term, and gives it lists of its own, whose terms are still to do.
func (e *eraser) term(t *api.Term) {
	t.Type, t.Row, t.Own = api.Type{}, api.Row{}, api.Type{}
	var made bool
	if t.Kids, made = e.kids.of(t.Kids); made {
		for n := range t.Kids {
			e.todo = append(e.todo, &t.Kids[n])
		}
	}
	if t.Arms, made = e.arms.of(t.Arms); made {
		for n := range t.Arms {
			arm := &t.Arms[n]
			arm.Vars = slices.Clone(arm.Vars)
			e.todo = append(e.todo, &arm.Body)
		}
	}
}

// copies are the copies of lists, by where these lie; if it is nil, each one is made anew.
type copies[A any] map[place[A]][]A

// place is where a list lies, and how long it is.
type place[A any] struct {
	first *A
	size  int
}

// of is the copy of a list, and whether it is a new one.
func (c copies[A]) of(list []A) ([]A, bool) {
	if len(list) == 0 {
		return slices.Clone(list), false
	}
	at := place[A]{&list[0], len(list)}
	if known, made := c[at]; made {
		return known, false
	}
	out := slices.Clone(list)
	if c != nil {
		c[at] = out
	}
	return out, true
}
