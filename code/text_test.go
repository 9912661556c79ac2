package code_test

import (
	"strconv"
	"strings"
	"testing"

	"brocade/api"
)

// TestText has the text of each kind, with functions where atoms are asked, and where they are bodies.
func TestText(t *testing.T) {
	f, g := variable("f"), fun("x", variable("y"))
	wantRight(t, bind("x", call(f, number(1)), variable("x")), "bind x { call f 1 } { x }", 5, "f")
	wantRight(t, call(g, g), "call { fun x { y } } { fun x { y } }", 5, "y")
	wantRight(t, call(f, g), "call f { fun x { y } }", 4, "f", "y")
	wantRight(t, fun("z", g), "fun z { fun x { y } }", 3, "y")
	wantRight(t, let("y", g, g), "let y { fun x { y } } { fun x { y } }", 5, "y")
	wantRight(t, bind("y", g, call(g, f)), "bind y { fun x { y } } { call { fun x { y } } f }", 7, "f", "y")
	wantRight(t, rec("y", "z", g, g), "rec y z { fun x { y } } { fun x { y } }", 5)
	wantRight(t, choice(g, g, g), "if { fun x { y } } { fun x { y } } { fun x { y } }", 7, "y")
	wantRight(t, choice(truth(0), unit(), number(-1)), "if false { unit } { -1 }", 4)
	wantRight(t, form(api.CodeOp, ":=", f, g), "op := f { fun x { y } }", 4, "f", "y")
	wantRight(t, form(api.CodeOp, "print", g), "op print { fun x { y } }", 3, "y")
	wantRight(t, con("C", g, f, g, number(2)), "con C { fun x { y } } f { fun x { y } } 2", 7, "f", "y")
	wantRight(t, match(g, arm("A", g, "y"), arm("B", f)), "match { fun x { y } } | A y { fun x { y } } | B { f }", 6, "f", "y")
	wantRight(t, yield("get", g), "yield get { fun x { y } }", 3, "y")
	wantRight(t, prompt("E", g, arm("return", g, "y"), arm("get", g, "a", "b"), tail("put", g, "c")), "prompt E { fun x { y } } | return y { fun x { y } } | get a b { fun x { y } } | tail put c { fun x { y } }", 9, "y")
	wantRight(t, prompt("E", bind("a", yield("get", number(1)), form(api.CodeOp, "+", variable("a"), number(1))), returns(), tail("get", form(api.CodeOp, "+", variable("x"), number(1)), "x")), "prompt E { bind a { yield get 1 } { op + a 1 } } | return x { x } | tail get x { op + x 1 }", 11)
}

// TestTextNames: names stand in a text as they are.
func TestTextNames(t *testing.T) {
	for _, name := range []string{"{", "}", "|", "a b", " ", "'1", "x'12", "tail", "\xff\x00\n", "fun", strings.Repeat("n", 5000)} {
		x := variable(name)
		wantRight(t, x, name, 1, name)
		wantRight(t, fun(name, x), "fun "+name+" { "+name+" }", 2)
		wantRight(t, rec(name, name, x, x), "rec "+name+" "+name+" { "+name+" } { "+name+" }", 3)
		wantRight(t, yield(name, x), "yield "+name+" "+name, 2, name)
		wantRight(t, match(x, arm(name, x, name)), "match "+name+" | "+name+" "+name+" { "+name+" }", 3, name)
		wantRight(t, con(name, x, x), "con "+name+" "+name+" "+name, 3, name)
	}
}

// reader reads texts word by word.
type reader struct{ words []string }

func (r *reader) take() string {
	word := r.words[0]
	r.words = r.words[1:]
	return word
}

// next tells whether one of some words is next.
func (r *reader) next(words ...string) bool {
	for _, word := range words {
		if len(r.words) > 0 && r.words[0] == word {
			return true
		}
	}
	return false
}

func (r *reader) braced() api.Code {
	r.take()
	c := r.code()
	r.take()
	return c
}

func (r *reader) atom() api.Code {
	if r.next("{") {
		return r.braced()
	}
	return r.code()
}

func (r *reader) atoms() []api.Code {
	var out []api.Code
	for len(r.words) > 0 && !r.next("}", "|") {
		out = append(out, r.atom())
	}
	return out
}

func (r *reader) arms() []api.CodeArm {
	var out []api.CodeArm
	for r.next("|") {
		r.take()
		var a api.CodeArm
		if a.Tail = r.next("tail"); a.Tail {
			r.take()
		}
		a.Name = r.take()
		for !r.next("{") {
			a.Vars = append(a.Vars, r.take())
		}
		a.Body = r.braced()
		out = append(out, a)
	}
	return out
}

func (r *reader) code() api.Code {
	switch word := r.take(); word {
	case "true":
		return truth(1)
	case "false":
		return truth(0)
	case "unit":
		return unit()
	case "fun":
		return fun(r.take(), r.braced())
	case "call":
		return call(r.atom(), r.atom())
	case "let":
		return let(r.take(), r.braced(), r.braced())
	case "bind":
		return bind(r.take(), r.braced(), r.braced())
	case "rec":
		return rec(r.take(), r.take(), r.braced(), r.braced())
	case "if":
		return choice(r.atom(), r.braced(), r.braced())
	case "op":
		return form(api.CodeOp, r.take(), r.atoms()...)
	case "con":
		return con(r.take(), r.atoms()...)
	case "match":
		return match(r.atom(), r.arms()...)
	case "yield":
		return yield(r.take(), r.atom())
	case "prompt":
		return prompt(r.take(), r.braced(), r.arms()...)
	default:
		if n, err := strconv.Atoi(word); err == nil {
			return number(n)
		}
		return variable(word)
	}
}

// read is the code whose text it is, if no name in it is a word of another meaning.
func read(t *testing.T, text string) api.Code {
	t.Helper()
	r := reader{strings.Split(text, " ")}
	c := r.code()
	if len(r.words) > 0 {
		t.Errorf("%s: there is more: %q", text, r.words)
	}
	return c
}
