package scope_test

import (
	"strings"
	"testing"

	"brocade/api"
	"brocade/parse"
	"brocade/scope"
)

// declarations stand ahead of most of the programs here.
const declarations = `
effect E { ask : unit -> int ; tell : L -> unit }
effect F { }
effect G { go : bool -> L }
data L { Nil ; Cons int L }
data Pair { Pair One L }
data One { One bool }
data None { }
data Three { A unit ; B int int ; C }
data Like { P int ; Q L ; R bool }
effect Same { p : int -> int ; q : int -> int }
`

func read(t *testing.T, source string) api.Program {
	t.Helper()
	p, at, err := parse.Parse([]byte(source))
	if err != api.OK {
		t.Fatalf("%s: %v at %d", source, err, at)
	}
	return p
}

func op(name string, arg, res api.Type) api.OpSig { return api.OpSig{Name: name, Arg: arg, Res: res} }

func con(name string, fields ...api.Type) api.ConSig { return api.ConSig{Name: name, Fields: fields} }

func way(body api.Term, name string, vars ...string) api.Arm {
	return api.Arm{Name: name, Vars: vars, Body: body}
}

func wantCheck(t *testing.T, what any, p api.Program, at int, err api.Errno) {
	t.Helper()
	if gotAt, got := scope.Check(p); gotAt != at || got != err {
		t.Errorf("%.200v: %v at %d, not %v at %d", what, got, gotAt, err, at)
	}
}

// wantMarked holds what Check answers of a body against the mark that is set in it: what is wrong begins there.
func wantMarked(t *testing.T, body string) {
	t.Helper()
	at, err := strings.Index(body, "§"), api.ErrScope
	if at < 0 {
		at, err = 0, api.OK
	} else {
		at += len(declarations)
	}
	wantCheck(t, body, read(t, declarations+strings.Replace(body, "§", "", 1)), at, err)
}

func wantSlow(t *testing.T, p api.Program) {
	t.Helper()
	at, err := slowCheck(p)
	if gotAt, got := scope.Check(p); gotAt != at || got != err {
		t.Fatalf("%+v: %v at %d, not %v at %d", p, got, gotAt, err, at)
	}
}
