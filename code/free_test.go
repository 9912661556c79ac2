package code_test

import (
	"testing"

	"brocade/api"
	"brocade/code"
)

// TestFree has all that binds names, and where it does.
func TestFree(t *testing.T) {
	for text, free := range map[string][]string{
		"x": {"x"}, "call x y": {"x", "y"}, "call y x": {"x", "y"}, "call x x": {"x"}, "call b { fun a { con C a b c } }": {"b", "c"},
		"fun x { x }": nil, "fun x { y }": {"y"}, "fun x { fun y { call x y } }": nil, "call { fun x { x } } x": {"x"}, "call x { fun x { x } }": {"x"},
		"let x { x } { x }": {"x"}, "let x { y } { x }": {"y"}, "let x { 1 } { call x y }": {"y"}, "let x { 1 } { 2 }": nil,
		"bind x { x } { x }": {"x"}, "bind x { y } { x }": {"y"}, "bind x { fun x { x } } { bind y { x } { call x y } }": nil,
		"rec f x { call f x } { f }": nil, "rec f x { f } { call f x }": {"x"}, "rec f x { x } { x }": {"x"}, "rec f x { y } { z }": {"y", "z"}, "rec x x { x } { x }": nil,
		"if x { y } { z }": {"x", "y", "z"}, "op + x y": {"x", "y"}, "op read": nil, "op print print": {"print"}, "con x": nil, "con x y z": {"y", "z"}, "yield x y": {"y"},
		"match x | A { y }": {"x", "y"}, "match x | A x { x }": {"x"}, "match 1 | A x y { call x y } | B { x }": {"x"}, "match 1 | A x { x } | B y { call x y }": {"x"}, "match 1 | A x x { x }": nil, "match 1 | x { x }": {"x"},
		"prompt E { x } | return x { x }": {"x"}, "prompt E { 1 } | return x { x }": nil, "prompt E { E } | return x { get } | get x k { return }": {"E", "get", "return"},
		"prompt E { 1 } | return x { y } | get y k { call k y }": {"y"}, "prompt E { 1 } | return x { x } | get y k { call x k }": {"x"}, "prompt E { 1 } | return x { x } | tail get y { call y k }": {"k"}, "prompt E { k } | return x { x } | get y k { k }": {"k"},
	} {
		c := read(t, text)
		wantRight(t, c, text, slowSize(c), free...)
	}
}

// TestFreeNobody: `_` is never bound, wherever it stands.
func TestFreeNobody(t *testing.T) {
	for _, text := range []string{"_", "fun _ { _ }", "let _ { 1 } { _ }", "bind _ { 1 } { _ }", "rec _ x { _ } { 1 }", "rec f _ { _ } { 1 }", "rec _ _ { 1 } { _ }", "match 1 | A _ { _ }", "match 1 | A _ x _ { call x _ }", "prompt E { 1 } | return _ { _ }", "prompt E { 1 } | return x { x } | get _ k { _ }", "prompt E { 1 } | return x { x } | get x _ { _ }", "prompt E { 1 } | return x { x } | tail get _ { _ }"} {
		c := read(t, text)
		wantRight(t, c, text, slowSize(c), "_")
	}
	for _, text := range []string{"fun _ { 1 }", "let _ { 1 } { 2 }", "match 1 | A _ x { x }", "fun x { fun _ { x } }"} {
		c := read(t, text)
		wantRight(t, c, text, slowSize(c))
	}
}

// TestFreeOrder: names are in the order of their bytes.
func TestFreeOrder(t *testing.T) {
	list := []string{"b", "a", "Z", "ab", "a b", "'10", "'9", "_", "\xff", "a", "\x00"}
	var kids []api.Code
	for _, name := range list {
		kids = append(kids, variable(name))
	}
	c := con("C", kids...)
	wantRight(t, c, slowText(c), 12, "\x00", "'10", "'9", "Z", "_", "a", "a b", "ab", "b", "\xff")
}

// TestSize: all pieces count, right or not.
func TestSize(t *testing.T) {
	x := variable("x")
	odd := api.Code{Kind: 99, N: -1, Kids: []api.Code{x, {}, fun("", x)}, Arms: []api.CodeArm{{Body: x}, {Name: "A", Vars: []string{"x", "y"}, Body: call(x, x)}}}
	for _, one := range []struct {
		c    api.Code
		size int
	}{{api.Code{}, 1}, {odd, 9}, {fun("x", odd), 10}, {con("C", odd, x, odd), 20}, {match(odd, arm("", odd)), 19}, {prompt("", api.Code{}), 2}} {
		want(t, one.c, code.Size(one.c), one.size)
		wantWrong(t, one.c, one.c)
	}
}
