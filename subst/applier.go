package subst

import "brocade/api"

// applier puts what a substitution says into one type. If that would have more pieces than an inferred
// one may have, each list is made once: one that stands in many places, or within itself, does so again.
type applier struct {
	by   Subst
	made map[place][]api.Type // what became of which list; nil if each is made anew
	todo []task
}

// place is where a list of Args lies; said tells whether it is met in what is said of a variable,
// into which nothing more is put.
type place struct {
	first *api.Type
	size  int
	said  bool
}

// task is a list of Args, and the list in which has to stand what becomes of them.
type task struct {
	from, to []api.Type
	said     bool
}

// whole is what becomes of a type, list by list, so that it may be as deep as it likes.
func (a *applier) whole(t api.Type) api.Type {
	out := a.become(t, false)
	for len(a.todo) > 0 {
		next := a.todo[len(a.todo)-1]
		a.todo = a.todo[:len(a.todo)-1]
		for i, arg := range next.from {
			next.to[i] = a.become(arg, next.said)
		}
	}
	return out
}

// become is what becomes of a type, but that its Args are still to do.
func (a *applier) become(t api.Type, said bool) api.Type {
	by := a.by
	if said {
		by = None()
	}
	if instead, known := by.insteadOfType(t); known {
		t, by, said = instead, None(), true
	}
	t.Row = by.ApplyRow(t.Row)
	t.Args = a.args(t.Args, said)
	return t
}

// args is the list of what becomes of some Args, which are still to do if it is a new one.
func (a *applier) args(from []api.Type, said bool) []api.Type {
	if len(from) == 0 {
		return nil
	}
	at := place{&from[0], len(from), said}
	if to, known := a.made[at]; known {
		return to
	}
	to := make([]api.Type, len(from))
	if a.made != nil {
		a.made[at] = to
	}
	a.todo = append(a.todo, task{from, to, said})
	return to
}
