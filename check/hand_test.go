package check_test

import (
	"testing"

	"brocade/api"
)

// puts is what is put at some terms, by their places in the order of Walk, in the stead of what is inferred.
type puts map[int]string

// none is the place of the wrong term, if no term is wrong.
const none = -1

// changed is a source, behind the declarations, with what is put at some of its terms; wrong is the first wrong one then.
type changed struct {
	source string
	puts   puts
	wrong  int
}

func wantChanged(t *testing.T, list []changed) {
	t.Helper()
	for _, c := range list {
		p := typed(t, c.source)
		wantCheck(t, c.source, p, 0, api.OK)
		places := within(&p.Body)
		for i, text := range c.puts {
			put(places[i], text)
		}
		if c.wrong == none {
			wantCheck(t, c, p, 0, api.OK)
		} else {
			wantCheck(t, c, p, 100+c.wrong, api.ErrType)
		}
	}
}

// TestLeaves has variables, numbers, true, false and ().
func TestLeaves(t *testing.T) {
	wantChanged(t, []changed{
		{"fun x -> x", puts{0: "int -> <|1> int", 1: "int"}, none},
		{"fun x -> x", puts{0: "ref '7 -> ref '7", 1: "ref '7 in <>"}, none},
		{"fun x -> x", puts{0: "'1 -> <|1> '2", 1: "'2"}, 1},
		{"fun x -> x", puts{0: "'1 -> <|1> int", 1: "int"}, 1},
		{"fun x -> x", puts{0: "int -> <|1> '1", 1: "'1"}, 1},
		{"fun x -> x", puts{0: "(int -> <E> int) -> <|1> int -> <E|1> int", 1: "int -> <E|1> int"}, 1},
		{"fun x -> x", puts{0: "(int -> <|1> int) -> <|1> int -> <|2> int", 1: "int -> <|2> int"}, 1},
		{"let f = fun x -> x in f", puts{0: "L -> <E> L", 3: "L -> <E> L"}, none},
		{"let f = fun x -> x in f", puts{0: "L -> <E> L", 1: "'9 -> <|7> '9", 2: "'9 in <|7>", 3: "L -> <E> L"}, none},
		{"let f = fun x -> x in f", puts{0: "L -> <E> int", 3: "L -> <E> int"}, 3},
		{"let f = fun x -> x in f", puts{0: "ref '1", 3: "ref '1"}, 3},
		{"let f = fun x -> x in f", puts{0: "'4 -> '4", 3: "'4 -> '4"}, none},
		{"let f = fun x -> e! x in f", puts{0: "unit -> <E,E,F|4> int", 4: "unit -> <E,E,F|4> int"}, none},
		{"let f = fun x -> e! x in f", puts{0: "unit -> <E> int", 4: "unit -> <E> int"}, none},
		{"let f = fun x -> e! x in f", puts{0: "unit -> <F|4> int", 4: "unit -> <F|4> int"}, 4},
		{"1", puts{0: "int"}, none},
		{"1", puts{0: "bool"}, 0},
		{"1", puts{0: "'1"}, 0},
		{"1", puts{0: "L"}, 0},
		{"1", puts{0: "ref int"}, 0},
		{"true", puts{0: "int"}, 0},
		{"true", puts{0: "unit"}, 0},
		{"false", puts{0: "int"}, 0},
		{"false", puts{0: "'1"}, 0},
		{"()", puts{0: "int"}, 0},
		{"()", puts{0: "bool"}, 0},
		{"()", puts{0: "'1"}, 0},
	})
}

// TestFunctions has functions, applications, let and rec.
func TestFunctions(t *testing.T) {
	wantChanged(t, []changed{
		{"fun x -> 1", puts{0: "bool -> <E,console> int", 1: "int in <E,console>"}, none},
		{"fun x -> 1", puts{0: "'1 -> int", 1: "int in <>"}, none},
		{"fun x -> 1", puts{0: "int"}, 0},
		{"fun x -> 1", puts{0: "ref int"}, 0},
		{"fun x -> 1", puts{0: "'1"}, 0},
		{"fun x -> 1", puts{0: "L"}, 0},
		{"fun x -> 1", puts{0: "'1 -> <|1> bool"}, 0},
		{"fun x -> 1", puts{0: "'1 -> <|2> int"}, 0},
		{"fun x -> 1", puts{0: "'1 -> <E|1> int"}, 0},
		{"fun x -> 1", puts{0: "'1 -> int"}, 0},
		{"fun x -> 1", puts{1: "int in <|2>"}, 0},
		{"fun x -> 1", puts{1: "bool"}, 0},
		{"fun x -> 1", puts{0: "'1 -> <|1> bool", 1: "bool"}, 1},

		{"(fun x -> 2) 1", puts{1: "bool -> <console> int", 3: "bool"}, 3},
		{"(fun x -> 2) 1", puts{0: "bool"}, 0},
		{"(fun x -> 2) 1", puts{3: "bool"}, 0},
		{"(fun x -> 2) 1", puts{1: "bool -> <console> int"}, 0},
		{"(fun x -> 2) 1", puts{1: "int -> <console> bool"}, 0},
		{"(fun x -> 2) 1", puts{1: "int -> <E,console> int", 2: "int in <E,console>"}, 0},
		{"(fun x -> 2) 1", puts{1: "int -> int", 2: "int in <>"}, 0},
		{"(fun x -> 2) 1", puts{1: "ref int"}, 0},
		{"(fun x -> 2) 1", puts{1: "int -> <console> int in <>"}, 0},
		{"(fun x -> 2) 1", puts{3: "int in <>"}, 0},
		{"(fun x -> 2) 1", puts{0: "bool", 1: "int -> <console> bool"}, 1},

		{"let x = 1 in true", puts{0: "int"}, 0},
		{"let x = 1 in true", puts{2: "int"}, 0},
		{"let x = 1 in true", puts{0: "int", 2: "int"}, 2},
		{"let x = 1 in true", puts{1: "bool"}, 1},
		{"let x = 1 in true", puts{1: "int in <>"}, 0},
		{"let x = 1 in true", puts{2: "bool in <console|1>"}, 0},

		{"rec f x = 1 in true", puts{0: "bool of L -> <E> int", 1: "int in <E>"}, none},
		{"rec f x = 1 in true", puts{0: "int"}, 0},
		{"rec f x = 1 in true", puts{2: "int"}, 0},
		{"rec f x = 1 in true", puts{0: "bool of int"}, 0},
		{"rec f x = 1 in true", puts{0: "bool of '1"}, 0},
		{"rec f x = 1 in true", puts{0: "bool of ref int"}, 0},
		{"rec f x = 1 in true", puts{0: "bool of '1 -> <|1> bool"}, 0},
		{"rec f x = 1 in true", puts{0: "bool of '1 -> <|2> int"}, 0},
		{"rec f x = 1 in true", puts{0: "bool of '1 -> int"}, 0},
		{"rec f x = 1 in true", puts{1: "bool"}, 0},
		{"rec f x = 1 in true", puts{1: "int in <console>"}, 0},
		{"rec f x = 1 in true", puts{2: "bool in <>"}, 0},
		{"rec f x = 1 in true", puts{0: "bool of '1 -> <|1> bool", 1: "bool"}, 1},
	})
}

// TestOperators has if and all operators.
func TestOperators(t *testing.T) {
	wantChanged(t, []changed{
		{"if true then 1 else 2", puts{0: "bool"}, 0},
		{"if true then 1 else 2", puts{1: "int"}, 0},
		{"if true then 1 else 2", puts{2: "bool"}, 0},
		{"if true then 1 else 2", puts{3: "bool"}, 0},
		{"if true then 1 else 2", puts{1: "bool in <>"}, 0},
		{"if true then 1 else 2", puts{2: "int in <>"}, 0},
		{"if true then 1 else 2", puts{3: "int in <>"}, 0},
		{"if true then 1 else 2", puts{0: "'1", 2: "'1", 3: "'1"}, 2},
		{"if true then fun x -> x else fun x -> x", puts{0: "'3 -> <|1> '3", 2: "'3 -> <|1> '3", 3: "'3"}, 0},

		{"read ()", puts{0: "unit"}, 0},
		{"print 1", puts{0: "int"}, 0},
		{"print 1", puts{1: "bool"}, 0},
		{"print 1", puts{1: "'1"}, 0},
		{"print 1", puts{1: "int in <>"}, 0},
		{"fun x -> print 1", puts{0: "'1 -> <console> unit", 1: "unit in <console>", 2: "int in <console>"}, none},
		{"fun x -> print 1", puts{0: "'1 -> <E,console,console|3> unit", 1: "unit in <E,console,console|3>", 2: "int in <E,console,console|3>"}, none},
		{"fun x -> print 1", puts{0: "'1 -> <|1> unit", 1: "unit in <|1>", 2: "int in <|1>"}, 1},
		{"fun x -> print 1", puts{0: "'1 -> <E|1> unit", 1: "unit in <E|1>", 2: "int in <E|1>"}, 1},
		{"fun x -> print 1", puts{0: "'1 -> unit", 1: "unit in <>", 2: "int in <>"}, 1},
		{"fun x -> read ()", puts{0: "'1 -> <E,console> int", 1: "int in <E,console>"}, none},
		{"fun x -> read ()", puts{0: "'1 -> <E|1> int", 1: "int in <E|1>"}, 1},
		{"fun x -> read ()", puts{0: "'1 -> int", 1: "int in <>"}, 1},

		{"ref 1", puts{0: "ref bool"}, 0},
		{"ref 1", puts{0: "int"}, 0},
		{"ref 1", puts{0: "ref (ref int)"}, 0},
		{"ref 1", puts{0: "ref '1"}, 0},
		{"ref 1", puts{1: "bool"}, 0},
		{"ref 1", puts{1: "int in <>"}, 0},
		{"ref 1", puts{0: "ref bool", 1: "bool"}, 1},
		{"fun x -> ! x", puts{0: "ref L -> L", 1: "L in <>", 2: "ref L in <>"}, none},
		{"fun x -> ! x", puts{0: "ref '1 -> <|1> int", 1: "int"}, 1},
		{"fun x -> ! x", puts{0: "'1 -> <|1> '1", 2: "'1"}, 1},
		{"fun x -> ! x", puts{0: "ref (ref '1) -> <|1> '1", 2: "ref (ref '1)"}, 1},
		{"fun x -> ! x", puts{2: "ref '1 in <>"}, 1},
		{"fun r -> r := 1", puts{0: "ref int -> <|1> int", 1: "int"}, 1},
		{"fun r -> r := 1", puts{0: "ref bool -> <|1> unit", 2: "ref bool"}, 1},
		{"fun r -> r := 1", puts{0: "int -> <|1> unit", 2: "int"}, 1},
		{"fun r -> r := 1", puts{3: "bool"}, 1},
		{"fun r -> r := 1", puts{3: "ref int"}, 1},
		{"fun r -> r := 1", puts{2: "ref int in <>"}, 1},
		{"fun r -> r := 1", puts{3: "int in <>"}, 1},
		{"fun r -> r := 1", puts{0: "ref bool -> <|1> unit", 2: "ref bool", 3: "bool"}, 3},
	})
	answers := map[string]string{"+": "int", "-": "int", "*": "int", "/": "int", "<": "bool", "=": "bool"}
	for op, answer := range answers {
		other := map[string]string{"int": "bool", "bool": "int"}[answer]
		wantChanged(t, []changed{
			{"1 " + op + " 2", puts{0: answer}, none},
			{"1 " + op + " 2", puts{0: other}, 0},
			{"1 " + op + " 2", puts{0: "'1"}, 0},
			{"1 " + op + " 2", puts{0: "unit"}, 0},
			{"1 " + op + " 2", puts{1: "bool"}, 0},
			{"1 " + op + " 2", puts{2: "bool"}, 0},
			{"1 " + op + " 2", puts{2: "'1"}, 0},
			{"1 " + op + " 2", puts{1: "int in <>"}, 0},
			{"1 " + op + " 2", puts{2: "int in <>"}, 0},
			{"1 " + op + " 2", puts{0: other, 1: other, 2: other}, 0},
			{"1 " + op + " 2", puts{1: "'1", 2: "'1"}, 0},
		})
	}
}

// TestDeclared has constructors, matches, operations and handlers.
func TestDeclared(t *testing.T) {
	wantChanged(t, []changed{
		{"Cons(1, Nil)", puts{0: "One"}, 0},
		{"Cons(1, Nil)", puts{0: "int"}, 0},
		{"Cons(1, Nil)", puts{0: "'1"}, 0},
		{"Cons(1, Nil)", puts{1: "bool"}, 0},
		{"Cons(1, Nil)", puts{2: "One"}, 0},
		{"Cons(1, Nil)", puts{2: "int"}, 0},
		{"Cons(1, Nil)", puts{1: "L", 2: "int"}, 0},
		{"Cons(1, Nil)", puts{1: "int in <>"}, 0},
		{"Cons(1, Nil)", puts{2: "L in <>"}, 0},
		{"Nil", puts{0: "Three"}, 0},

		{"match Nil { Nil -> 1; Cons x y -> 2 }", puts{0: "bool"}, 0},
		{"match Nil { Nil -> 1; Cons x y -> 2 }", puts{1: "One"}, 0},
		{"match Nil { Nil -> 1; Cons x y -> 2 }", puts{1: "int"}, 0},
		{"match Nil { Nil -> 1; Cons x y -> 2 }", puts{1: "'1"}, 0},
		{"match Nil { Nil -> 1; Cons x y -> 2 }", puts{1: "L in <>"}, 0},
		{"match Nil { Nil -> 1; Cons x y -> 2 }", puts{2: "bool"}, 0},
		{"match Nil { Nil -> 1; Cons x y -> 2 }", puts{3: "bool"}, 0},
		{"match Nil { Nil -> 1; Cons x y -> 2 }", puts{2: "int in <>"}, 0},
		{"match Nil { Nil -> 1; Cons x y -> 2 }", puts{3: "int in <E,console>"}, 0},
		{"match Nil { Nil -> 1; Cons x y -> 2 }", puts{0: "bool", 2: "bool", 3: "bool"}, 2},

		{"fun x -> e! x", puts{0: "unit -> <E> int", 1: "int in <E>", 2: "unit in <E>"}, none},
		{"fun x -> e! x", puts{0: "unit -> <E,E,F|2> int", 1: "int in <E,E,F|2>", 2: "unit in <E,E,F|2>"}, none},
		{"fun x -> e! x", puts{0: "unit -> <|1> int", 1: "int in <|1>", 2: "unit in <|1>"}, 1},
		{"fun x -> e! x", puts{0: "unit -> <F,console|1> int", 1: "int in <F,console|1>", 2: "unit in <F,console|1>"}, 1},
		{"fun x -> e! x", puts{0: "unit -> int", 1: "int in <>", 2: "unit in <>"}, 1},
		{"fun x -> e! x", puts{0: "unit -> <E|1> bool", 1: "bool"}, 1},
		{"fun x -> e! x", puts{0: "unit -> <E|1> unit", 1: "unit"}, 1},
		{"fun x -> e! x", puts{0: "int -> <E|1> int", 2: "int"}, 1},
		{"fun x -> e! x", puts{2: "unit in <F|1>"}, 1},
		{"fun x -> tell! x", puts{0: "One -> <E|1> unit", 2: "One"}, 1},
		{"fun x -> tell! x", puts{0: "L -> <E|1> int", 1: "int"}, 1},

		{"handle F f! 1 { return x -> 1; f x k -> 2 }", puts{0: "bool"}, 0},
		{"handle F f! 1 { return x -> 1; f x k -> 2 }", puts{1: "bool in <console>", 2: "int in <console>"}, 0},
		{"handle F f! 1 { return x -> 1; f x k -> 2 }", puts{1: "bool in <F,F,console>", 2: "int in <F,F,console>"}, 0},
		{"handle F f! 1 { return x -> 1; f x k -> 2 }", puts{1: "bool in <E,F,console>", 2: "int in <E,F,console>"}, 0},
		{"handle F f! 1 { return x -> 1; f x k -> 2 }", puts{1: "bool in <F,console|1>", 2: "int in <F,console|1>"}, 0},
		{"handle F f! 1 { return x -> 1; f x k -> 2 }", puts{1: "bool in <F>", 2: "int in <F>"}, 0},
		{"handle F f! 1 { return x -> 1; f x k -> 2 }", puts{1: "bool in <console,F>", 2: "int in <console,F>"}, 0},
		{"handle F f! 1 { return x -> 1; f x k -> 2 }", puts{1: "int"}, 1},
		{"handle F f! 1 { return x -> 1; f x k -> 2 }", puts{3: "bool"}, 0},
		{"handle F f! 1 { return x -> 1; f x k -> 2 }", puts{4: "bool"}, 0},
		{"handle F f! 1 { return x -> 1; f x k -> 2 }", puts{3: "int in <F,console>"}, 0},
		{"handle F f! 1 { return x -> 1; f x k -> 2 }", puts{4: "int in <F,console>"}, 0},
		{"handle F f! 1 { return x -> 1; f x k -> 2 }", puts{0: "bool", 3: "bool", 4: "bool"}, 3},
		{"fun u -> handle E u { return x -> 1; e x k -> 2; tell x k -> 3 }", puts{0: "'1 -> <E> int", 1: "int in <E>", 2: "'1 in <E,E>", 3: "int in <E>", 4: "int in <E>", 5: "int in <E>"}, none},
		{"fun u -> handle E u { return x -> 1; e x k -> 2; tell x k -> 3 }", puts{5: "bool"}, 1},
		{"fun u -> handle E u { return x -> 1; e x k -> 2; tell x k -> 3 }", puts{5: "int in <E|1>"}, 1},
	})
}

// TestBodyRow: the body's row is that of console alone, closed; that is asked behind all shares.
func TestBodyRow(t *testing.T) {
	for _, happens := range []string{"<>", "<|1>", "<console|1>", "<E>", "<E,console>", "<console,console>", "<console,console,console>"} {
		wantChanged(t, []changed{
			{"1", puts{0: "int in " + happens}, 0},
			{"ref 1", puts{0: "ref int in " + happens, 1: "int in " + happens}, 0},
			{"ref 1", puts{0: "ref bool in " + happens, 1: "bool in " + happens}, 1},
			{"fun x -> 1", puts{0: "'1 -> <|1> bool in " + happens, 1: "bool"}, 1},
		})
	}
	for _, happens := range []string{"<console,E>", "<console,E|1>"} { // not right: that is asked at once
		wantChanged(t, []changed{
			{"1", puts{0: "int in " + happens}, 0},
			{"ref 1", puts{0: "ref bool in " + happens, 1: "bool in " + happens}, 0},
		})
	}
}

// TestOrder: of several wrong terms the first one is told: a term, its kids, its arms' bodies, and so on within each.
func TestOrder(t *testing.T) {
	const wrong = "(if true then 1 else 2)" // of which all kids can be wrong
	for _, source := range []string{
		wrong + " + " + wrong, "Cons(" + wrong + ", Cons(" + wrong + ", Nil))",
		"let x = " + wrong + " in let y = " + wrong + " in " + wrong, "rec f x = " + wrong + " in " + wrong, "(fun x -> " + wrong + ") " + wrong,
		"match Cons(" + wrong + ", Nil) { Nil -> " + wrong + "; Cons x y -> " + wrong + " }",
		"handle E " + wrong + " { return x -> " + wrong + "; e x k -> match C { A x -> " + wrong + "; B x y -> " + wrong + "; C -> 1 }; tell x k -> " + wrong + " }",
		"if 1 < " + wrong + " then " + wrong + " else let y = " + wrong + " in " + wrong, "print ! ref " + wrong, "fun x -> fun y -> " + wrong + " * " + wrong,
	} {
		p := typed(t, source)
		places := within(&p.Body)
		for last := len(places) - 1; last >= 0; last-- {
			if places[last].Kind == api.TermIf {
				places[last].Kids[0].Type = kind(api.TypUnit)
				wantCheck(t, source, p, 100+last, api.ErrType)
			}
		}
	}
}

// TestScopeFirst: of programs that chapter 6 does not take, what that answers, whatever types stand there.
func TestScopeFirst(t *testing.T) {
	for _, x := range []struct {
		source string
		at     int
	}{
		{"fun x -> y", 9}, {"let f = 1 1 in x", 15}, {"let x = x in 1", 8}, {"_", 0}, {"fun _ -> _", 9}, {"data D { D } data D { } 1", 0}, {"effect E { e : A -> int } 1", 0},
		{"A", 0}, {"e! 1", 0}, {"handle E 1 { return x -> x }", 0}, {"1 1 + x", 6}, {"match 1 { A -> 1 }", 0},
	} {
		p := read(t, x.source)
		wantCheck(t, x.source, p, x.at, api.ErrScope)
		for _, at := range within(&p.Body) {
			put(at, "int in <console>")
		}
		wantCheck(t, x.source, p, x.at, api.ErrScope)
	}
	p := api.Program{Effects: make([]api.Effect, api.MaxLabels), Body: api.Term{Kind: api.TermUnit, At: 5}}
	wantCheck(t, "too many effects", p, 0, api.ErrLimit)
	wantCheck(t, "nothing", api.Program{}, 0, api.ErrScope)
	wantCheck(t, "no types", api.Program{Body: api.Term{Kind: api.TermUnit, At: 5}}, 5, api.ErrType)
}

// TestAt: where a wrong term begins is told as it stands there.
func TestAt(t *testing.T) {
	for _, at := range []int{0, -3, 1 << 40} {
		body := api.Term{Kind: api.TermOp, Name: "ref", At: 8, Type: typ("ref bool"), Row: row(0, "console"), Kids: []api.Term{{Kind: api.TermInt, At: at, Type: typ("bool"), Row: row(0, "console")}}}
		wantCheck(t, at, api.Program{Body: body}, at, api.ErrType)
	}
}
