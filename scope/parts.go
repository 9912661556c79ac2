package scope

import (
	"iter"

	"brocade/api"
)

// parts are the terms right within a term, its kids ahead of its arms' bodies, each with the names that it binds there.
func parts(t *api.Term) iter.Seq2[*api.Term, []string] {
	return func(yield func(*api.Term, []string) bool) {
		for i := range t.Kids {
			if !yield(&t.Kids[i], binds(t, i)) {
				return
			}
		}
		for i := range t.Arms {
			if !yield(&t.Arms[i].Body, t.Arms[i].Vars) {
				return
			}
		}
	}
}

// binds is the names that a term binds in one of its kids.
func binds(t *api.Term, kid int) []string {
	switch {
	case t.Kind == api.TermFun, t.Kind == api.TermLet && kid == 1, t.Kind == api.TermRec && kid == 1:
		return []string{t.Name}
	case t.Kind == api.TermRec:
		return []string{t.Name, t.Param}
	}
	return nil
}
