package scope_test

import (
	"reflect"
	"slices"

	"brocade/api"
)

// slowCheck is what Check has to answer: all terms are told apart, each with a list of what is bound there.
func slowCheck(p api.Program) (int, api.Errno) {
	if len(p.Effects) > 65534 {
		return 0, api.ErrLimit
	}
	if !slowDeclared(p) {
		return 0, api.ErrScope
	}
	for _, s := range stands(p.Body) {
		if !s.right(p) {
			return s.term.At, api.ErrScope
		}
	}
	return 0, api.OK
}

// slowDeclared tells whether the declarations are right, by lists of all names and of all types.
func slowDeclared(p api.Program) bool {
	var effects, ops, datas, cons []string
	var types []api.Type
	for _, e := range p.Effects {
		effects = append(effects, e.Name)
		for _, o := range e.Ops {
			ops = append(ops, o.Name)
			types = append(types, o.Arg, o.Res)
		}
	}
	for _, d := range p.Datas {
		datas = append(datas, d.Name)
		for _, c := range d.Cons {
			cons = append(cons, c.Name)
			types = append(types, c.Fields...)
		}
	}
	for _, names := range [][]string{effects, ops, datas, cons} {
		once := slices.Compact(slices.Sorted(slices.Values(names)))
		if len(once) != len(names) || slices.Contains(names, "") {
			return false
		}
	}
	fine := []api.Type{{Kind: api.TypInt}, {Kind: api.TypBool}, {Kind: api.TypUnit}}
	for _, name := range datas {
		fine = append(fine, api.Type{Kind: api.TypData, Name: name})
	}
	for _, t := range types {
		t.Args, t.Row.Labels = none(t.Args), none(t.Row.Labels)
		if !slices.ContainsFunc(fine, func(f api.Type) bool { return reflect.DeepEqual(f, t) }) {
			return false
		}
	}
	return !slices.Contains(effects, "console") && !slices.Contains(datas, "console")
}

// none is a list, nil if it has no items.
func none[A any](l []A) []A {
	if len(l) == 0 {
		return nil
	}
	return l
}

// stand is a term at a place, and what is bound there.
type stand struct {
	term  api.Term
	bound []string
}

// stands are a term and all that stand within it, in order, below some names.
func stands(t api.Term, bound ...string) []stand {
	out := []stand{{t, bound}}
	for i, kid := range t.Kids {
		names := bound
		switch t.Kind {
		case api.TermFun:
			names = and(bound, t.Name)
		case api.TermLet:
			if i == 1 {
				names = and(bound, t.Name)
			}
		case api.TermRec:
			names = and(bound, t.Name)
			if i == 0 {
				names = and(names, t.Param)
			}
		}
		out = append(out, stands(kid, names...)...)
	}
	for _, arm := range t.Arms {
		out = append(out, stands(arm.Body, and(bound, arm.Vars...)...)...)
	}
	return out
}

func and(names []string, more ...string) []string { return slices.Concat(names, more) }

// form is how many kids a term has, and its arms, each told by its Name and how many Vars it has.
type form struct {
	kids int
	arms []arm
}

type arm struct {
	name string
	vars int
}

// forms are the forms that a term may have by its kind and name.
func forms(p api.Program, t api.Term) []form {
	switch t.Kind {
	case api.TermVar, api.TermInt, api.TermBool, api.TermUnit:
		return []form{{}}
	case api.TermFun:
		return []form{{kids: 1}}
	case api.TermApp, api.TermLet, api.TermRec:
		return []form{{kids: 2}}
	case api.TermIf:
		return []form{{kids: 3}}
	case api.TermOp:
		return slowOperator(t.Name)
	}
	return declaredForms(p, t)
}

func slowOperator(name string) []form {
	for kids, names := range [][]string{{"read"}, {"print", "ref", "!"}, {"+", "-", "*", "/", "<", "=", ":="}} {
		if slices.Contains(names, name) {
			return []form{{kids: kids}}
		}
	}
	return nil
}

// declaredForms are those of the kinds whose terms are as is declared: of a match one for each data.
func declaredForms(p api.Program, t api.Term) []form {
	var out []form
	for _, e := range p.Effects {
		clauses := []arm{{"return", 1}}
		for _, o := range e.Ops {
			clauses = append(clauses, arm{o.Name, 2})
			if t.Kind == api.TermDo && t.Name == o.Name {
				out = append(out, form{kids: 1})
			}
		}
		if t.Kind == api.TermHandle && t.Name == e.Name {
			out = append(out, form{1, clauses})
		}
	}
	for _, d := range p.Datas {
		var ways []arm
		for _, c := range d.Cons {
			ways = append(ways, arm{c.Name, len(c.Fields)})
			if t.Kind == api.TermCon && t.Name == c.Name {
				out = append(out, form{kids: len(c.Fields)})
			}
		}
		if t.Kind == api.TermMatch && len(ways) > 0 {
			out = append(out, form{1, ways})
		}
	}
	return out
}

func (s stand) right(p api.Program) bool {
	has := form{kids: len(s.term.Kids)}
	for _, a := range s.term.Arms {
		has.arms = append(has.arms, arm{a.Name, len(a.Vars)})
		for i, name := range a.Vars {
			twice := slices.Contains(a.Vars[:i], name)
			if twice && (name != "_" || s.term.Kind == api.TermHandle) {
				return false
			}
		}
	}
	if s.term.Kind == api.TermVar && (s.term.Name == "_" || !slices.Contains(s.bound, s.term.Name)) {
		return false
	}
	return slices.ContainsFunc(forms(p, s.term), func(f form) bool { return reflect.DeepEqual(f, has) })
}
