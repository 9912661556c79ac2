package code_test

import (
	"fmt"
	"reflect"
	"testing"

	"brocade/api"
	"brocade/code"
)

func want(t *testing.T, what, got, want any) {
	t.Helper()
	if !reflect.DeepEqual(got, want) {
		t.Errorf("%s: %s, not %s", brief(what), brief(got), brief(want))
	}
}

// brief is how something is told, if that is not too long, or how that begins.
func brief(what any) string {
	text := fmt.Sprintf("%v", what)
	return text[:min(len(text), 1000)]
}

// wantRight holds that code is right, and what is told of it.
func wantRight(t *testing.T, c api.Code, text string, size int, free ...string) {
	t.Helper()
	got, err := code.Text(c)
	want(t, text, []any{code.Right(c), got, err, code.Size(c)}, []any{true, text, api.OK, size})
	want(t, text, append([]string{}, code.Free(c)...), append([]string{}, free...))
}

// wantWrong holds that code is not right.
func wantWrong(t *testing.T, what any, c api.Code) {
	t.Helper()
	text, err := code.Text(c)
	want(t, what, []any{code.Right(c), text, err}, []any{false, "", api.ErrArg})
	code.Free(c)
}

func variable(name string) api.Code { return api.Code{Kind: api.CodeVar, Name: name} }

func number(n int) api.Code { return api.Code{Kind: api.CodeInt, N: n} }

func truth(n int) api.Code { return api.Code{Kind: api.CodeBool, N: n} }

func unit() api.Code { return api.Code{Kind: api.CodeUnit} }

// form is code of a kind that has a Name, or none, and Kids.
func form(kind int, name string, kids ...api.Code) api.Code {
	return api.Code{Kind: kind, Name: name, Kids: kids}
}

func fun(name string, body api.Code) api.Code { return form(api.CodeFun, name, body) }

func call(f, a api.Code) api.Code { return form(api.CodeApp, "", f, a) }

func let(name string, is, in api.Code) api.Code { return form(api.CodeLet, name, is, in) }

func bind(name string, is, in api.Code) api.Code { return form(api.CodeBind, name, is, in) }

func rec(name, param string, body, in api.Code) api.Code {
	return api.Code{Kind: api.CodeRec, Name: name, Param: param, Kids: []api.Code{body, in}}
}

func choice(kids ...api.Code) api.Code { return form(api.CodeIf, "", kids...) }

func con(name string, kids ...api.Code) api.Code { return form(api.CodeCon, name, kids...) }

func yield(name string, with api.Code) api.Code { return form(api.CodeYield, name, with) }

func match(with api.Code, arms ...api.CodeArm) api.Code {
	return api.Code{Kind: api.CodeMatch, Kids: []api.Code{with}, Arms: arms}
}

func prompt(name string, below api.Code, arms ...api.CodeArm) api.Code {
	return api.Code{Kind: api.CodePrompt, Name: name, Kids: []api.Code{below}, Arms: arms}
}

func arm(name string, body api.Code, vars ...string) api.CodeArm {
	return api.CodeArm{Name: name, Vars: vars, Body: body}
}

func tail(name string, body api.Code, vars ...string) api.CodeArm {
	return api.CodeArm{Name: name, Vars: vars, Tail: true, Body: body}
}

// returns is an arm as the first one of a prompt may be.
func returns() api.CodeArm { return arm("return", variable("x"), "x") }

// places are the places of the pieces right within a piece.
func places(c *api.Code) []*api.Code {
	var out []*api.Code
	for n := range c.Kids {
		out = append(out, &c.Kids[n])
	}
	for n := range c.Arms {
		out = append(out, &c.Arms[n].Body)
	}
	return out
}

// within are all places of code, its own first.
func within(c *api.Code) []*api.Code {
	out := []*api.Code{c}
	for _, place := range places(c) {
		out = append(out, within(place)...)
	}
	return out
}

// copied is code with lists of its own.
func copied(c api.Code) api.Code {
	c.Kids, c.Arms = append([]api.Code(nil), c.Kids...), append([]api.CodeArm(nil), c.Arms...)
	for n := range c.Arms {
		c.Arms[n].Vars = append([]string(nil), c.Arms[n].Vars...)
	}
	for _, place := range places(&c) {
		*place = copied(*place)
	}
	return c
}
