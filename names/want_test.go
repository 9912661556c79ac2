package names_test

import (
	"reflect"
	"slices"
	"testing"

	"brocade/api"
	"brocade/names"
	"brocade/parse"
)

// declarations stand ahead of the programs that have to be right.
const declarations = "effect E { ask : unit -> int ; tell : int -> unit } data L { Nil ; Cons int L } "

// read is the body of a program, with its declarations or without.
func read(t *testing.T, source string) api.Term {
	t.Helper()
	p, at, err := parse.Parse([]byte(source))
	if err != api.OK {
		t.Fatalf("%s: %v at %d", source, err, at)
	}
	return p.Body
}

func want(t *testing.T, what, got, want any) {
	t.Helper()
	if !reflect.DeepEqual(got, want) {
		t.Errorf("%.300v: %v, not %v", what, got, want)
	}
}

// wantFree holds Free and Uses against how often each name stands free.
func wantFree(t *testing.T, what any, term api.Term, counts map[string]int) {
	t.Helper()
	var list []string
	for name, count := range counts {
		list = append(list, name)
		want(t, []any{what, name}, names.Uses(term, name), count)
	}
	slices.Sort(list)
	if got := names.Free(term); !slices.Equal(got, list) {
		t.Errorf("%.300v: %q, not %q", what, got, list)
	}
	for _, name := range []string{"x", "_", "", "no"} {
		if !slices.Contains(list, name) {
			want(t, []any{what, name}, names.Uses(term, name), 0)
		}
	}
}

func variable(name string) api.Term { return api.Term{Kind: api.TermVar, Name: name} }

func fun(name string, body api.Term) api.Term {
	return api.Term{Kind: api.TermFun, Name: name, Kids: []api.Term{body}}
}

func app(f, a api.Term) api.Term { return api.Term{Kind: api.TermApp, Kids: []api.Term{f, a}} }

func plus(a, b api.Term) api.Term {
	return api.Term{Kind: api.TermOp, Name: "+", Kids: []api.Term{a, b}}
}

func pair(a, b api.Term) api.Term {
	return api.Term{Kind: api.TermCon, Name: "Pair", Kids: []api.Term{a, b}}
}

func let(name string, is, in api.Term) api.Term {
	return api.Term{Kind: api.TermLet, Name: name, Kids: []api.Term{is, in}}
}

func rec(name, param string, body, in api.Term) api.Term {
	return api.Term{Kind: api.TermRec, Name: name, Param: param, Kids: []api.Term{body, in}}
}

func arm(name string, body api.Term, vars ...string) api.Arm {
	return api.Arm{Name: name, Vars: vars, Body: body}
}

// places are the places of the terms right within a term.
func places(t *api.Term) []*api.Term {
	var out []*api.Term
	for n := range t.Kids {
		out = append(out, &t.Kids[n])
	}
	for n := range t.Arms {
		out = append(out, &t.Arms[n].Body)
	}
	return out
}
