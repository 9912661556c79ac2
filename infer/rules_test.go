package infer_test

import (
	"maps"
	"regexp"
	"slices"
	"strconv"
	"testing"

	"brocade/api"
	"brocade/scheme"
	"brocade/scope"
	"brocade/types"
)

// around is what is known where a term stands.
type around map[string]scheme.Scheme

func (a around) and(name string, s scheme.Scheme) around {
	out := maps.Clone(a)
	if name != "_" {
		out[name] = s
	}
	return out
}

func (a around) bare(name string, t api.Type) around { return a.and(name, scheme.Bare(t)) }

func (a around) general(t api.Type) scheme.Scheme {
	return scheme.General(slices.Collect(maps.Values(a)), t)
}

// isValue tells whether what let gives a name is generalized.
func isValue(t api.Term) bool {
	if t.Kind == api.TermCon {
		return !slices.ContainsFunc(t.Kids, func(kid api.Term) bool { return !isValue(kid) })
	}
	return t.Kind <= api.TermFun && t.Kind >= api.TermVar
}

// rules holds the types that stand in a program against the rules of chapter 4.
type rules struct {
	t    *testing.T
	what any
	api.Program
}

func (r rules) want(t api.Term, right bool) {
	r.t.Helper()
	if !right {
		r.t.Fatalf("%.3000v: against the rules is, of kind %d, named %q, at %d: %s; its kids are %q", r.what, t.Kind, t.Name, t.At, told(t), all(t)[1:])
	}
}

// wantRight holds a program's types against the rules.
func wantRight(t *testing.T, what any, p api.Program) {
	t.Helper()
	r := rules{t, what, p}
	r.want(p.Body, types.SameRow(p.Body.Row, row(0, "console")))
	r.term(p.Body, around{})
}

// term holds a term, and all within it, against the rules.
func (r rules) term(t api.Term, a around) {
	r.t.Helper()
	r.want(t, types.Right(t.Type) && types.RightRow(t.Row))
	r.want(t, (t.Kind == api.TermRec) == (t.Own.Kind != 0) && (t.Kind != api.TermRec || types.Right(t.Own)))
	same := func(a, b api.Type) { r.t.Helper(); r.want(t, types.Same(a, b)) }
	inRow := func(kids ...api.Term) {
		r.t.Helper()
		for _, kid := range kids {
			r.want(t, types.SameRow(kid.Row, t.Row))
		}
	}
	whole, truth, unit := kind(api.TypInt), kind(api.TypBool), kind(api.TypUnit)
	switch t.Kind {
	case api.TermVar:
		s, known := a[t.Name]
		r.want(t, known && scheme.Instance(s, t.Type))
	case api.TermInt:
		same(t.Type, whole)
	case api.TermBool:
		same(t.Type, truth)
	case api.TermUnit:
		same(t.Type, unit)
	case api.TermFun:
		r.want(t, t.Type.Kind == api.TypFun)
		same(t.Type, fun(t.Type.Args[0], t.Kids[0].Row, t.Kids[0].Type))
		r.term(t.Kids[0], a.bare(t.Name, t.Type.Args[0]))
	case api.TermApp:
		inRow(t.Kids...)
		same(t.Kids[0].Type, fun(t.Kids[1].Type, t.Row, t.Type))
		r.kids(t, a)
	case api.TermLet:
		inRow(t.Kids...)
		same(t.Type, t.Kids[1].Type)
		r.term(t.Kids[0], a)
		s := scheme.Bare(t.Kids[0].Type)
		if isValue(t.Kids[0]) {
			s = a.general(t.Kids[0].Type)
		}
		r.term(t.Kids[1], a.and(t.Name, s))
	case api.TermRec:
		inRow(t.Kids[1])
		same(t.Type, t.Kids[1].Type)
		r.want(t, t.Own.Kind == api.TypFun)
		same(t.Own, fun(t.Own.Args[0], t.Kids[0].Row, t.Kids[0].Type))
		r.term(t.Kids[0], a.bare(t.Name, t.Own).bare(t.Param, t.Own.Args[0]))
		r.term(t.Kids[1], a.and(t.Name, a.general(t.Own)))
	case api.TermIf:
		inRow(t.Kids...)
		same(t.Kids[0].Type, truth)
		same(t.Kids[1].Type, t.Type)
		same(t.Kids[2].Type, t.Type)
		r.kids(t, a)
	case api.TermOp:
		inRow(t.Kids...)
		r.kids(t, a)
		r.operator(t)
	case api.TermCon:
		inRow(t.Kids...)
		r.kids(t, a)
		d, con, _ := scope.Con(r.Program, t.Name)
		same(t.Type, data(d.Name))
		for i, field := range con.Fields {
			same(t.Kids[i].Type, field)
		}
	case api.TermMatch:
		r.match(t, a)
	case api.TermDo:
		effect, op, _ := scope.Effect(r.Program, t.Name)
		inRow(t.Kids...)
		same(t.Kids[0].Type, op.Arg)
		same(t.Type, op.Res)
		r.want(t, slices.Contains(t.Row.Labels, effect.Name))
		r.kids(t, a)
	case api.TermHandle:
		r.handle(t, a)
	default:
		r.want(t, false)
	}
}

func (r rules) kids(t api.Term, a around) {
	r.t.Helper()
	for _, kid := range t.Kids {
		r.term(kid, a)
	}
}

func (r rules) operator(t api.Term) {
	r.t.Helper()
	var kids []string
	for _, kid := range t.Kids {
		kids = append(kids, types.Text(kid.Type))
	}
	is := types.Text(t.Type)
	switch t.Name {
	case "+", "-", "*", "/":
		r.want(t, slices.Equal(kids, []string{"int", "int"}) && is == "int")
	case "<", "=":
		r.want(t, slices.Equal(kids, []string{"int", "int"}) && is == "bool")
	case "print":
		r.want(t, slices.Equal(kids, []string{"int"}) && is == "unit" && slices.Contains(t.Row.Labels, "console"))
	case "read":
		r.want(t, len(kids) == 0 && is == "int" && slices.Contains(t.Row.Labels, "console"))
	case "ref":
		r.want(t, types.Same(t.Type, ref(t.Kids[0].Type)))
	case "!":
		r.want(t, types.Same(t.Kids[0].Type, ref(t.Type)))
	case ":=":
		r.want(t, types.Same(t.Kids[0].Type, ref(t.Kids[1].Type)) && is == "unit")
	default:
		r.want(t, false)
	}
}

func (r rules) match(t api.Term, a around) {
	r.t.Helper()
	d, _, _ := scope.Con(r.Program, t.Arms[0].Name)
	r.want(t, types.SameRow(t.Kids[0].Row, t.Row) && types.Same(t.Kids[0].Type, data(d.Name)))
	r.kids(t, a)
	for i, arm := range t.Arms {
		b := a
		for n, name := range arm.Vars {
			b = b.bare(name, d.Cons[i].Fields[n])
		}
		r.want(t, types.SameRow(arm.Body.Row, t.Row) && types.Same(arm.Body.Type, t.Type))
		r.term(arm.Body, b)
	}
}

func (r rules) handle(t api.Term, a around) {
	r.t.Helper()
	effect, _ := scope.Handled(r.Program, t.Name)
	r.want(t, types.SameRow(t.Kids[0].Row, types.Add(t.Row, t.Name)))
	r.kids(t, a)
	for i, arm := range t.Arms {
		b := a.bare(arm.Vars[0], t.Kids[0].Type)
		if i > 0 {
			op := effect.Ops[i-1]
			b = a.bare(arm.Vars[0], op.Arg).bare(arm.Vars[1], fun(op.Res, t.Row, t.Type))
		}
		r.want(t, types.SameRow(arm.Body.Row, t.Row) && types.Same(arm.Body.Type, t.Type))
		r.term(arm.Body, b)
	}
}

// variables finds the variables in what is told of a term.
var variables = regexp.MustCompile(`'\d+|\|\d+`)

// wantNumbered holds that variables are numbered from 1 on, as they first stand in the terms.
func wantNumbered(t *testing.T, what any, body api.Term) {
	t.Helper()
	kinds, rows := 0, 0
	for _, at := range within(&body) {
		for _, found := range variables.FindAllString(told(*at), -1) {
			met := &kinds
			if found[0] == '|' {
				met = &rows
			}
			n, _ := strconv.Atoi(found[1:])
			if n < 1 || n > *met+1 {
				t.Fatalf("%.3000v: %s comes ahead of %d: %q", what, found, *met+1, all(body))
			}
			*met = max(*met, n)
		}
	}
}
