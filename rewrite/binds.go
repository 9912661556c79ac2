package rewrite

import "brocade/api"

// binds is the names that a term binds in its kids.
func binds(t *api.Term) []string {
	switch t.Kind {
	case api.TermFun, api.TermLet:
		return []string{t.Name}
	case api.TermRec:
		return []string{t.Name, t.Param}
	}
	return nil
}

// reach is how many of these names, from the first one on, are bound in one of the kids.
func reach(t *api.Term, kid int) int {
	switch {
	case t.Kind == api.TermRec && kid == 0:
		return 2
	case t.Kind == api.TermFun, t.Kind == api.TermLet && kid == 1, t.Kind == api.TermRec && kid == 1:
		return 1
	}
	return 0
}
