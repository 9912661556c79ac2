package check

import (
	"slices"

	"brocade/api"
	"brocade/scheme"
	"brocade/types"
)

// right tells whether a term's own share of the rules is right, by what is told there.
func (c *checker) right(t *api.Term) bool {
	return types.Right(t.Type) && types.RightRow(t.Row) && c.share(t)
}

// share tells whether a term's own share of the rules is right, if its Type and Row are.
func (c *checker) share(t *api.Term) bool {
	switch t.Kind {
	case api.TermVar:
		return scheme.Instance(c.schemeOf(t.Name), t.Type)
	case api.TermFun:
		return isFunction(t.Type, &t.Kids[0])
	case api.TermRec:
		return types.Right(t.Own) && isFunction(t.Own, &t.Kids[0]) && stands(&t.Kids[1], t.Row, t.Type)
	case api.TermMatch:
		return stands(&t.Kids[0], t.Row, c.cons[t.Arms[0].Name].answers) && armsStand(t)
	case api.TermHandle:
		return types.SameRow(t.Kids[0].Row, types.Add(t.Row, t.Name)) && armsStand(t)
	}
	return meets(t, c.signature(t))
}

// stands tells whether at a term stand a row and a type.
func stands(t *api.Term, r api.Row, of api.Type) bool {
	return types.SameRow(t.Row, r) && types.Same(t.Type, of)
}

// isFunction tells whether a type, that is right, is that of a function with some body.
func isFunction(t api.Type, body *api.Term) bool {
	return t.Kind == api.TypFun && stands(body, t.Row, t.Args[1])
}

// armsStand tells whether at all arms' bodies of a term stands what stands at it.
func armsStand(t *api.Term) bool {
	return !slices.ContainsFunc(t.Arms, func(arm api.Arm) bool { return !stands(&arm.Body, t.Row, t.Type) })
}

// meets tells whether a term has a signature.
func meets(t *api.Term, s signature) bool {
	for n := range t.Kids {
		if !stands(&t.Kids[n], t.Row, s.takes[n]) {
			return false
		}
	}
	return types.Same(t.Type, s.answers) && (s.label == "" || slices.Contains(t.Row.Labels, s.label))
}

// signature is that of a term of a kind whose kids are all in its own row; where the rules let it be of any type,
// of those that stand there.
func (c *checker) signature(t *api.Term) signature {
	switch t.Kind {
	case api.TermInt:
		return signature{answers: plain(api.TypInt)}
	case api.TermBool:
		return signature{answers: plain(api.TypBool)}
	case api.TermUnit:
		return signature{answers: plain(api.TypUnit)}
	case api.TermApp:
		takes := t.Kids[1].Type
		return signature{takes: []api.Type{function(takes, t.Row, t.Type), takes}, answers: t.Type}
	case api.TermLet:
		return signature{takes: []api.Type{t.Kids[0].Type, t.Type}, answers: t.Type}
	case api.TermIf:
		return signature{takes: []api.Type{plain(api.TypBool), t.Type, t.Type}, answers: t.Type}
	case api.TermCon:
		return c.cons[t.Name]
	case api.TermDo:
		return c.ops[t.Name]
	}
	return operator(t)
}

// operator is the signature of an operator.
func operator(t *api.Term) signature {
	whole, unit := plain(api.TypInt), plain(api.TypUnit)
	switch t.Name {
	case "<", "=":
		return signature{takes: []api.Type{whole, whole}, answers: plain(api.TypBool)}
	case "print":
		return signature{takes: []api.Type{whole}, answers: unit, label: api.Console}
	case "read":
		return signature{answers: whole, label: api.Console}
	case "ref":
		held := t.Kids[0].Type
		return signature{takes: []api.Type{held}, answers: ref(held)}
	case "!":
		return signature{takes: []api.Type{ref(t.Type)}, answers: t.Type}
	case ":=":
		held := t.Kids[1].Type
		return signature{takes: []api.Type{ref(held), held}, answers: unit}
	}
	return signature{takes: []api.Type{whole, whole}, answers: whole}
}
