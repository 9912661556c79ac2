package unify

import (
	"slices"

	"brocade/api"
	"brocade/subst"
	"brocade/types"
)

// unifier goes on from a substitution, and from a number that is not taken yet.
type unifier struct {
	said subst.Subst
	next int
}

// inOrder does steps until one fails.
func inOrder(steps ...func() api.Errno) api.Errno {
	for _, step := range steps {
		if err := step(); err != api.OK {
			return err
		}
	}
	return api.OK
}

// types unifies two types, that stand so many levels down in those that were handed in.
func (u *unifier) types(a, b api.Type, level int) api.Errno {
	a, b = u.said.Apply(a), u.said.Apply(b)
	switch {
	case types.Same(a, b):
		return api.OK
	case a.Kind == api.TypVar:
		return u.beType(a.Var, b)
	case b.Kind == api.TypVar:
		return u.beType(b.Var, a)
	case !both(a, b, api.TypFun, 2) && !both(a, b, api.TypRef, 1):
		return api.ErrType
	case beyond(a, deepest-level) && beyond(b, deepest-level):
		return api.ErrLimit
	case a.Kind == api.TypRef:
		return u.types(a.Args[0], b.Args[0], level+1)
	}
	return inOrder(
		func() api.Errno { return u.types(a.Args[0], b.Args[0], level+1) },
		func() api.Errno { return u.rows(a.Row, b.Row) },
		func() api.Errno { return u.types(a.Args[1], b.Args[1], level+1) },
	)
}

// both tells whether two types are of a kind, and have as many Args as right ones of that have.
func both(a, b api.Type, kind, args int) bool {
	return a.Kind == kind && b.Kind == kind && len(a.Args) == args && len(b.Args) == args
}

// beType lets a type variable be a type.
func (u *unifier) beType(n int, t api.Type) api.Errno {
	if within, _ := types.Vars(t); slices.Contains(within, n) {
		return api.ErrType
	}
	return u.goOn(subst.None().SetType(n, t))
}

// beRow lets a row variable be a row.
func (u *unifier) beRow(n int, r api.Row) api.Errno {
	return u.goOn(subst.None().SetRow(n, r))
}

// goOn goes on with what was said so far, and then with what is said now.
func (u *unifier) goOn(now subst.Subst) api.Errno {
	if anyLarge(now) {
		return api.ErrLimit // so would be all in which it came to stand: more, maybe, than there is room for
	}
	said := u.said.Then(now)
	if anyLarge(said) {
		return api.ErrLimit
	}
	u.said = said
	return api.OK
}

// anyLarge tells whether a type that is said of some variable is large.
func anyLarge(s subst.Subst) bool {
	known, _ := s.Vars()
	return slices.ContainsFunc(known, func(n int) bool {
		t, _ := s.Type(n)
		return Large(t)
	})
}
