package names_test

import (
	"strings"
	"testing"

	"brocade/api"
	"brocade/names"
)

// TestFree has each kind of term and all that binds names: its free names are written behind each, as often as they stand there.
func TestFree(t *testing.T) {
	for source, list := range map[string]string{
		"x": "x", "_": "_", "7": "", "true": "", "()": "", "read ()": "", "Nil": "", "f x": "f x", "x x": "x x", "f (f x) x": "f f x x",
		"fun x -> x": "", "fun x -> y": "y", "fun x -> x y x y": "y y", "(fun x -> x) x": "x", "x (fun x -> x)": "x", "fun x -> fun y -> x y z": "z", "fun x -> fun x -> x": "", "(fun x -> x z) (y z)": "y z z",
		"fun _ -> _": "_", "fun _ -> x": "x", "fun x -> fun _ -> x _": "_", "_ (fun _ -> _ _)": "_ _ _",
		"let x = x in x": "x", "let x = 1 in x": "", "let x = x x in x x x": "x x", "let x = y in z": "y z", "(let x = 1 in x) x": "x", "let x = (let y = y in y) in y": "y y", "let _ = _ in _": "_ _", "let x = fun y -> x in x y": "x y",
		"rec f x = f x in f": "", "rec f x = f in x": "x", "rec f x = x in f x": "x", "rec f x = y in z": "y z", "rec f f = f in f": "", "(rec f x = f x in f x) f x": "x f x", "rec f x = f x y in f y y": "y y y",
		"rec f _ = f _ in f _": "_ _", "rec _ x = _ x in _ x": "_ _ x", "rec _ _ = _ in _": "_ _", "rec f x = (rec x f = x f g in x f) in g": "g g",
		"if x then y else z": "x y z", "if x then x else x": "x x x", "fun x -> if x then y else x": "y", "if (fun x -> x) then x else 1": "x",
		"x + y": "x y", "x + x * x": "x x x", "x := ! y": "x y", "print x": "x", "ref x": "x", "(x < y) = z": "x y z", "x - x / 2": "x x",
		"Cons(x, Cons(y, x))": "x y x", "fun x -> Cons(x, y)": "y", "Cons(fun x -> x, x)": "x",
		"match x { }": "x", "match x { Nil -> x; Cons x y -> x y z }": "x x z", "match f { A x -> y; B y -> x; C -> f }": "f y x f", "match 1 { A x y -> x y; B -> x y }": "x y", "match 1 { A _ x -> _ x }": "_", "match 1 { A x x -> x }": "",
		"(match 1 { A x -> x }) x": "x", "fun x -> match x { A y -> x y; B -> x y }": "y", "match 1 { A x -> match x { A y -> x y z } }": "z",
		"ask! x": "x", "ask! (tell! y)": "y", "fun x -> ask! x": "",
		"handle E x { return x -> x }": "x", "handle E x { return y -> x; ask z k -> k z }": "x x", "handle E 1 { return x -> x y; ask x k -> k x y; tell y k -> k x y }": "y y x", "handle E k { return k -> k; ask x k -> x; tell k x -> k }": "k",
		"handle E 1 { return _ -> _; ask _ k -> k _; tell x _ -> _ x }": "_ _ _", "handle E ask { return return1 -> return1; ask x k -> ask k }": "ask ask",
		"x1 + x + x11 + x1": "x x1 x1 x11", "a + ab + b": "a ab b",
	} {
		counts := map[string]int{}
		for _, name := range strings.Fields(list) {
			counts[name]++
		}
		wantFree(t, source, read(t, source), counts)
	}
}

// TestRising: names are told by their bytes, each once.
func TestRising(t *testing.T) {
	list := []string{"", "A", "Z", "_", "a", "a'", "a'1", "a'10", "a'2", "aB", "aa", "ab", "b", "z\x00", "z\x7f", "z\x80", "z\xff", "é"}
	rising := api.Term{Kind: api.TermCon, Name: "C"}
	falling := rising
	counts := map[string]int{}
	for n := range list {
		rising.Kids = append(rising.Kids, variable(list[n]))
		falling.Kids = append(falling.Kids, variable(list[len(list)-1-n]), variable("b"))
		counts[list[n]] = 1
	}
	wantFree(t, "rising", rising, counts)
	counts["b"] += len(list)
	wantFree(t, "falling", falling, counts)
}

// TestEmptyName: an empty name is bound as others are.
func TestEmptyName(t *testing.T) {
	none := variable("")
	wantFree(t, "itself", none, map[string]int{"": 1})
	wantFree(t, "fun", app(fun("", none), none), map[string]int{"": 1})
	wantFree(t, "let", let("", none, none), map[string]int{"": 1})
	wantFree(t, "rec", rec("", "x", none, app(none, variable("x"))), map[string]int{"x": 1})
	wantFree(t, "param", rec("x", "", none, app(none, variable("x"))), map[string]int{"": 1})
	match := api.Term{Kind: api.TermMatch, Kids: []api.Term{none}, Arms: []api.Arm{arm("A", none, ""), arm("B", none, "x")}}
	wantFree(t, "match", match, map[string]int{"": 2})
}

// TestNoVariables: names of other things than variables, and of what was inferred, are none.
func TestNoVariables(t *testing.T) {
	of := api.Type{Kind: api.TypData, Name: "x"}
	row := api.Row{Labels: []string{"x"}, Var: 1}
	for _, term := range []api.Term{
		{Kind: api.TermInt, Name: "x", Param: "x", N: 1}, {Kind: api.TermUnit, Type: of, Row: row, Own: of}, {Kind: api.TermOp, Name: "x"}, {Kind: api.TermCon, Name: "x"},
		{Kind: api.TermDo, Name: "x", Kids: []api.Term{{Kind: api.TermUnit}}}, {Kind: api.TermMatch, Kids: []api.Term{{Kind: api.TermUnit}}, Arms: []api.Arm{arm("x", api.Term{Kind: api.TermUnit})}},
		{Kind: api.TermHandle, Name: "x", Kids: []api.Term{{Kind: api.TermUnit}}, Arms: []api.Arm{arm("return", api.Term{Kind: api.TermUnit}, "x")}},
	} {
		wantFree(t, term, term, nil)
	}
	wantFree(t, "param", api.Term{Kind: api.TermVar, Name: "y", Param: "x"}, map[string]int{"y": 1})
	wantFree(t, "other params", api.Term{Kind: api.TermLet, Name: "y", Param: "x", Kids: []api.Term{variable("x"), variable("x")}}, map[string]int{"x": 2})
	wantFree(t, "nothing", api.Term{}, nil)
	if len(names.Free(api.Term{})) != 0 {
		t.Error("free names of nothing")
	}
}
