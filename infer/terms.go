package infer

import (
	"brocade/api"
	"brocade/scheme"
	"brocade/types"
)

// term finds the type of a term, and of all within it, in a row.
func (i *inferrer) term(t *api.Term, r api.Row) bool {
	t.Row = r
	switch t.Kind {
	case api.TermVar:
		t.Type = i.instance(i.names[t.Name].Scheme)
	case api.TermInt:
		t.Type = plain(api.TypInt)
	case api.TermBool:
		t.Type = plain(api.TypBool)
	case api.TermUnit:
		t.Type = plain(api.TypUnit)
	case api.TermFun:
		return i.fun(t)
	case api.TermLet:
		return i.let(t, r)
	case api.TermRec:
		return i.rec(t, r)
	case api.TermMatch:
		return i.match(t, r)
	case api.TermHandle:
		return i.handle(t, r)
	default:
		return i.call(t, r, i.signature(t, r))
	}
	return true
}

// signature is that of a term whose kids are all in its own row.
func (i *inferrer) signature(t *api.Term, r api.Row) signature {
	switch t.Kind {
	case api.TermApp:
		takes, answers := i.freshType(), i.freshType()
		return signature{takes: []api.Type{function(takes, r, answers), takes}, answers: answers}
	case api.TermIf:
		either := i.freshType()
		return signature{takes: []api.Type{plain(api.TypBool), either, either}, answers: either}
	case api.TermCon:
		return i.cons[t.Name]
	case api.TermDo:
		return i.ops[t.Name]
	}
	return operator(t.Name, i.freshType())
}

func (i *inferrer) call(t *api.Term, r api.Row, s signature) bool {
	t.Type = s.answers
	for n := range t.Kids {
		if kid := &t.Kids[n]; !i.term(kid, r) || !i.is(kid, s.takes[n]) {
			return false
		}
	}
	return s.label == "" || i.right(t, i.has(r, s.label))
}

func (i *inferrer) fun(t *api.Term) bool {
	body, takes, happens := &t.Kids[0], i.freshType(), i.freshRow()
	right := i.with(body, happens, single(t.Name, takes))
	t.Type = function(takes, happens, body.Type)
	return right
}

func (i *inferrer) let(t *api.Term, r api.Row) bool {
	is, in := &t.Kids[0], &t.Kids[1]
	s, right := i.letScheme(is, r)
	right = right && i.with(in, r, known{Scheme: s, name: t.Name})
	t.Type = in.Type
	return right
}

// letScheme is the scheme of what let gives a name.
func (i *inferrer) letScheme(is *api.Term, r api.Row) (scheme.Scheme, bool) {
	find := func() bool { return i.term(is, r) }
	if value(is) {
		return i.generalized(is, &is.Type, find)
	}
	found := find()
	return scheme.Bare(is.Type), found
}

// value tells whether a term's type may be generalized.
func value(t *api.Term) bool {
	switch t.Kind {
	case api.TermVar, api.TermInt, api.TermBool, api.TermUnit, api.TermFun:
		return true
	case api.TermCon:
		for n := range t.Kids {
			if !value(&t.Kids[n]) {
				return false
			}
		}
		return true
	}
	return false
}

func (i *inferrer) rec(t *api.Term, r api.Row) bool {
	in := &t.Kids[1]
	s, right := i.generalized(t, &t.Own, func() bool { return i.own(t) })
	right = right && i.with(in, r, known{Scheme: s, name: t.Name})
	t.Type = in.Type
	return right
}

// own finds the type of the function of a rec.
func (i *inferrer) own(t *api.Term) bool {
	body, takes, happens, answers := &t.Kids[0], i.freshType(), i.freshRow(), i.freshType()
	t.Own = function(takes, happens, answers)
	return i.with(body, happens, single(t.Name, t.Own), single(t.Param, takes)) && i.is(body, answers)
}

func (i *inferrer) match(t *api.Term, r api.Row) bool {
	looked := &t.Kids[0]
	t.Type = i.freshType()
	if !i.term(looked, r) || !i.is(looked, i.cons[t.Arms[0].Name].answers) {
		return false
	}
	for n := range t.Arms {
		if arm := &t.Arms[n]; !i.arm(t, arm, r, i.cons[arm.Name].takes...) {
			return false
		}
	}
	return true
}

func (i *inferrer) handle(t *api.Term, r api.Row) bool {
	handled := &t.Kids[0]
	t.Type = i.freshType()
	if !i.term(handled, types.Add(r, t.Name)) || !i.arm(t, &t.Arms[0], r, handled.Type) {
		return false
	}
	for n := range t.Arms[1:] {
		arm := &t.Arms[1+n]
		op := i.ops[arm.Name]
		if !i.arm(t, arm, r, op.takes[0], function(op.answers, r, t.Type)) {
			return false
		}
	}
	return true
}

// arm finds the type of an arm of a term, whose names are of some types, and which is of the term's type.
func (i *inferrer) arm(t *api.Term, arm *api.Arm, r api.Row, of ...api.Type) bool {
	names := make([]known, len(arm.Vars))
	for n, name := range arm.Vars {
		names[n] = single(name, of[n])
	}
	return i.with(&arm.Body, r, names...) && i.is(&arm.Body, t.Type)
}
