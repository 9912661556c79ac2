package infer_test

import (
	"strconv"
	"strings"
	"testing"

	"brocade/api"
	"brocade/infer"
	"brocade/parse"
	"brocade/types"
)

// declarations stand ahead of most of the programs here.
const declarations = `
effect E { e : unit -> int ; tell : L -> unit }
effect F { f : int -> bool }
effect None { }
data L { Nil ; Cons int L }
data One { One bool }
data Three { A unit ; B int L ; C }
`

func read(t *testing.T, source string) api.Program {
	t.Helper()
	p, at, err := parse.Parse([]byte(source))
	if err != api.OK {
		t.Fatalf("%s: %v at %d", source, err, at)
	}
	return p
}

func kind(kind int) api.Type { return api.Type{Kind: kind} }

func variable(n int) api.Type { return api.Type{Kind: api.TypVar, Var: n} }

func data(name string) api.Type { return api.Type{Kind: api.TypData, Name: name} }

func ref(held api.Type) api.Type { return api.Type{Kind: api.TypRef, Args: []api.Type{held}} }

func fun(takes api.Type, row api.Row, answers api.Type) api.Type {
	return api.Type{Kind: api.TypFun, Args: []api.Type{takes, answers}, Row: row}
}

func row(number int, labels ...string) api.Row { return api.Row{Labels: labels, Var: number} }

// term is a term of a kind, that begins nowhere.
func term(kind int, name string, kids ...api.Term) api.Term {
	return api.Term{Kind: kind, Name: name, Kids: kids}
}

func rowText(r api.Row) string {
	out := "<" + strings.Join(r.Labels, ",")
	if r.Var != 0 {
		out += "|" + strconv.Itoa(r.Var)
	}
	return out + ">"
}

// told is all that was inferred of one term.
func told(t api.Term) string {
	out := types.Text(t.Type) + " in " + rowText(t.Row)
	if t.Kind == api.TermRec {
		out = types.Text(t.Type) + " of " + types.Text(t.Own) + " in " + rowText(t.Row)
	}
	return out
}

// parts are the terms right within a term, kids ahead of arms' bodies.
func parts(t *api.Term) []*api.Term {
	var out []*api.Term
	for i := range t.Kids {
		out = append(out, &t.Kids[i])
	}
	for i := range t.Arms {
		out = append(out, &t.Arms[i].Body)
	}
	return out
}

// within are all places of a term, its own first.
func within(t *api.Term) []*api.Term {
	out := []*api.Term{t}
	for _, part := range parts(t) {
		out = append(out, within(part)...)
	}
	return out
}

// all is all that was inferred of a term and of all within it, in order.
func all(t api.Term) []string {
	var out []string
	for _, at := range within(&t) {
		out = append(out, told(*at))
	}
	return out
}

// infers answers what is inferred of a program that is right, and holds that against the rules.
func infers(t *testing.T, what any, p api.Program) api.Program {
	t.Helper()
	out, at, err := infer.Infer(p)
	if err != api.OK || at != 0 {
		t.Fatalf("%.3000v: %v at %d", what, err, at)
	}
	wantRight(t, what, out)
	wantNumbered(t, what, out.Body)
	return out
}

// wantError holds the error of a program, which is told at the place of some term.
func wantError(t *testing.T, what any, p api.Program, want api.Errno) {
	t.Helper()
	_, at, err := infer.Infer(p)
	if err != want {
		t.Fatalf("%.3000v: %v at %d, not %v", what, err, at, want)
	}
	for _, t := range within(&p.Body) {
		if t.At == at {
			return
		}
	}
	t.Fatalf("%.3000v: no term at %d", what, at)
}
