package rewrite_test

import (
	"fmt"
	"reflect"
	"strings"
	"testing"

	"brocade/api"
	"brocade/parse"
	"brocade/rewrite"
)

// read is the body of a program.
func read(t *testing.T, source string) api.Term {
	t.Helper()
	p, at, err := parse.Parse([]byte(source))
	if err != api.OK {
		t.Fatalf("%s: %v at %d", source, err, at)
	}
	return p.Body
}

func want(t *testing.T, what, got, want any) {
	t.Helper()
	if !reflect.DeepEqual(got, want) {
		t.Errorf("%.1000v: %.1000v, not %.1000v", what, got, want)
	}
}

// wantAlike holds Alike of two terms, from either side, and of each one and itself, and of what Apart makes of them.
func wantAlike(t *testing.T, what any, a, b api.Term, alike bool) {
	t.Helper()
	want(t, what, rewrite.Alike(a, b), alike)
	want(t, what, rewrite.Alike(b, a), alike)
	want(t, what, rewrite.Alike(a, rewrite.Apart(b)), alike)
	want(t, what, rewrite.Alike(rewrite.Apart(a), b), alike)
	want(t, what, rewrite.Alike(a, a) && rewrite.Alike(b, b), true)
}

// text shows a term: the names that it binds, and its kids, in brackets.
func text(t api.Term) string {
	words := []string{map[int]string{api.TermFun: "fun", api.TermLet: "let", api.TermRec: "rec", api.TermIf: "if", api.TermMatch: "match", api.TermHandle: "handle", api.TermDo: "do"}[t.Kind]}
	switch t.Kind {
	case api.TermVar:
		return t.Name
	case api.TermInt, api.TermBool:
		return fmt.Sprint(t.N)
	case api.TermUnit:
		return "()"
	}
	for _, name := range []string{t.Name, t.Param} {
		if name != "" {
			words = append(words, name)
		}
	}
	for _, kid := range t.Kids {
		words = append(words, text(kid))
	}
	for _, arm := range t.Arms {
		words = append(words, "{"+strings.Join(append([]string{arm.Name}, arm.Vars...), " ")+": "+text(arm.Body)+"}")
	}
	return "(" + strings.TrimSpace(strings.Join(words, " ")) + ")"
}

func variable(name string) api.Term { return api.Term{Kind: api.TermVar, Name: name} }

func fun(name string, body api.Term) api.Term {
	return api.Term{Kind: api.TermFun, Name: name, Kids: []api.Term{body}}
}

func app(f, a api.Term) api.Term { return api.Term{Kind: api.TermApp, Kids: []api.Term{f, a}} }

func pair(a, b api.Term) api.Term {
	return api.Term{Kind: api.TermCon, Name: "Pair", Kids: []api.Term{a, b}}
}

func let(name string, is, in api.Term) api.Term {
	return api.Term{Kind: api.TermLet, Name: name, Kids: []api.Term{is, in}}
}

func rec(name, param string, body, in api.Term) api.Term {
	return api.Term{Kind: api.TermRec, Name: name, Param: param, Kids: []api.Term{body, in}}
}

func arm(name string, body api.Term, vars ...string) api.Arm {
	return api.Arm{Name: name, Vars: vars, Body: body}
}

func match(with api.Term, arms ...api.Arm) api.Term {
	return api.Term{Kind: api.TermMatch, Kids: []api.Term{with}, Arms: arms}
}

// places are the places of the terms right within a term.
func places(t *api.Term) []*api.Term {
	var out []*api.Term
	for n := range t.Kids {
		out = append(out, &t.Kids[n])
	}
	for n := range t.Arms {
		out = append(out, &t.Arms[n].Body)
	}
	return out
}

// within are all places of a term, its own first.
func within(t *api.Term) []*api.Term {
	out := []*api.Term{t}
	for _, place := range places(t) {
		out = append(out, within(place)...)
	}
	return out
}
