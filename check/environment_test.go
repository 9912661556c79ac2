package check_test

import (
	"slices"
	"strings"
	"testing"

	"brocade/api"
)

// probe is a source, behind the declarations, in which # is a let of a function from a type variable by a row variable
// to that, which is used otherwise in what follows: is one of these variables told of there, so that it may not?
type probe struct {
	source string
	told   bool
}

// wantProbes holds for each probe whether one of two variables is told of. All others are below 70.
func wantProbes(t *testing.T, kind, row string, probes []probe) {
	t.Helper()
	of := "'" + kind + " -> <|" + row + "> '" + kind
	for _, x := range probes {
		p := typed(t, strings.ReplaceAll(x.source, "#", "(let probe = fun z -> z in probe 1)"))
		places := within(&p.Body)
		at := slices.IndexFunc(places, func(t *api.Term) bool { return t.Name == "probe" })
		put(places[at+1], of)
		put(places[at+2], "'"+kind+" in <|"+row+">")
		if x.told {
			wantCheck(t, x.source, p, 100+at+4, api.ErrType)
		} else {
			wantCheck(t, x.source, p, 0, api.OK)
		}
	}
}

// TestToldTypes: which variables are free in the schemes of the names that are told, for all that binds names.
func TestToldTypes(t *testing.T) {
	wantProbes(t, "1", "77", []probe{
		{"#", false},
		{"fun x -> #", true},
		{"fun _ -> #", false},
		{"fun x -> fun y -> #", true},
		{"fun x -> fun _ -> #", true},
		{"fun x -> fun x -> #", false},
		{"fun x -> fun x -> fun y -> #", false},
		{"fun x -> let _ = fun x -> 1 in #", true},
		{"fun x -> let _ = fun x -> fun x -> 1 in #", true},
		{"fun x -> let _ = fun x -> fun y -> fun x -> 1 in fun y -> #", true},
		{"let _ = fun x -> 1 in #", false},

		{"fun x -> let x = 1 in #", false},
		{"fun x -> let x = # in 1", true},
		{"fun x -> let _ = 1 in #", true},
		{"fun x -> let y = (let x = 1 in x) in #", true},
		{"fun x -> let y = x in fun x -> #", true},
		{"fun x -> let y = x in fun x -> let y = 1 in #", false},
		{"fun x -> let y = fun u -> x in fun x -> #", true},
		{"let x = fun u -> u in #", false},
		{"let x = ref (fun u -> u) in #", true},
		{"let x = ref (fun u -> u) in let x = 1 in #", false},
		{"let _ = ref (fun u -> u) in #", false},

		{"rec f x = # in 1", true},
		{"rec f f = # in 1", true},
		{"rec f _ = # in 1", true},
		{"rec _ x = # in 1", true},
		{"rec _ _ = # in 1", false},
		{"rec f x = 1 in #", false},
		{"rec f x = x in let f = f in #", false},
		{"rec f x = fun f -> # in 1", true},
		{"rec f x = fun f -> fun x -> # in 1", false},
		{"fun x -> rec f y = # in 1", true},
		{"fun x -> rec f y = 1 in #", true},
		{"fun x -> rec x y = # in 1", false},
		{"fun x -> rec x y = 1 in #", false},
		{"fun x -> rec f x = # in 1", false},
		{"fun x -> rec f x = 1 in #", true},
		{"fun x -> rec _ _ = # in 1", true},
		{"fun x -> let _ = (rec x y = 1 in 2) in #", true},
		{"fun x -> let _ = (rec f x = 1 in 2) in #", true},
		{"fun x -> let _ = (rec x x = 1 in 2) in #", true},

		{"fun x -> match Nil { Nil -> #; Cons x y -> 1 }", true},
		{"fun x -> match Nil { Nil -> 1; Cons x y -> # }", false},
		{"fun x -> match Nil { Nil -> 1; Cons y x -> # }", false},
		{"fun x -> match Nil { Nil -> 1; Cons _ _ -> # }", true},
		{"fun x -> match Cons(#, Nil) { Nil -> 1; Cons x y -> 1 }", true},
		{"fun x -> match C { A x -> 1; B u v -> #; C -> 1 }", true},
		{"fun x -> match C { A x -> 1; B x v -> 2; C -> # }", true},
		{"fun x -> let _ = match C { A x -> 1; B u x -> 1; C -> 1 } in #", true},

		{"handle F (fun y -> y) { return x -> #; f x k -> 1 }", true},
		{"handle F (fun y -> y) { return _ -> #; f x k -> 1 }", false},
		{"handle F (fun y -> y) { return x -> 1; f y k -> # }", false},
		{"handle F let _ = # in (fun y -> y) { return x -> 1; f y k -> 1 }", false},
		{"let _ = handle F (fun y -> y) { return x -> 1; f y k -> 1 } in #", false},
		{"handle F 1 { return x -> fun y -> y; f x k -> let _ = # in fun y -> y }", true},
		{"handle F 1 { return x -> fun y -> y; f k x -> let _ = # in fun y -> y }", true},
		{"handle F 1 { return x -> fun y -> y; f x _ -> let _ = # in fun y -> y }", false},
		{"handle F 1 { return x -> let _ = # in fun y -> y; f x k -> fun y -> y }", false},
		{"handle E 1 { return x -> fun y -> y; e x k -> let _ = # in fun y -> y; tell x k -> fun y -> y }", true},
		{"handle E 1 { return x -> fun y -> y; e x k -> fun y -> y; tell x _ -> let _ = # in fun y -> y }", false},
		{"fun x -> handle F 1 { return x -> #; f x k -> 1 }", false},
		{"fun x -> handle F 1 { return y -> #; f x k -> 1 }", true},
		{"fun x -> handle F 1 { return x -> 1; f x k -> # }", false},
		{"fun x -> handle F 1 { return x -> 1; f k x -> # }", false},
		{"fun x -> handle F 1 { return x -> 1; f y k -> # }", true},
		{"fun x -> handle F # { return x -> 1; f x k -> 2 }", true},
		{"fun x -> let _ = handle F 1 { return x -> 1; f x k -> 2 } in #", true},
	})
	wantProbes(t, "2", "77", []probe{
		{"fun x -> fun y -> #", true},
		{"fun x -> fun x -> #", true},
		{"fun x -> fun _ -> #", false},
		{"fun x -> let y = fun u -> u in #", false},
		{"rec f x = let _ = # in fun u -> u in 1", true}, // of what f answers
		{"rec f f = let _ = # in fun u -> u in 1", false},
		{"rec _ x = let _ = # in fun u -> u in 1", false},
		{"rec f _ = let _ = # in fun u -> u in 1", true},
	})
	wantProbes(t, "77", "78", []probe{{"fun x -> #", false}, {"rec f x = # in 1", false}})
}

// TestToldRows: row variables are told of just so, and have nothing to do with type variables of the same number.
func TestToldRows(t *testing.T) {
	wantProbes(t, "77", "1", []probe{
		{"fun v -> #", false},
		{"fun x -> fun v -> #", false},
		{"fun f -> let _ = f 1 in fun v -> #", true},
		{"fun _ -> fun v -> #", false},
		{"fun f -> let _ = f 1 in fun f -> #", false},
		{"fun f -> let _ = f 1 in let _ = fun f -> 1 in fun v -> #", true},
		{"rec f x = fun v -> # in 1", true},
		{"rec f f = fun v -> # in 1", false},
		{"rec _ x = fun v -> # in 1", false},
		{"rec f _ = fun v -> # in 1", true},
		{"rec f x = 1 in fun v -> #", false},
		{"fun u -> handle F 1 { return x -> 1; f x k -> let _ = fun v -> # in 2 }", true},
		{"fun u -> handle F 1 { return x -> 1; f x _ -> let _ = fun v -> # in 2 }", false},
		{"fun u -> handle F 1 { return x -> let _ = fun v -> # in 1; f x k -> 2 }", false},
	})
	wantProbes(t, "1", "77", []probe{{"fun f -> let _ = f () + 1 in fun _ -> #", false}, {"let r = ref 1 in fun _ -> #", false}})
}

// TestTold: which scheme a name has, by what stands where it is bound.
func TestTold(t *testing.T) {
	wantChanged(t, []changed{
		{"rec f x = let _ = f in 1 in 2", puts{2: "bool -> <|1> int"}, 2},    // bare in its body
		{"rec f x = let _ = f in 1 in 2", puts{2: "'1 -> <console> int"}, 2}, // its row, too
		{"rec f x = x in let _ = f in 1", puts{3: "L -> <E> L"}, none},       // generalized behind it
		{"rec f x = x in let _ = f in 1", puts{3: "L -> <E> int"}, 3},
		{"fun y -> rec f x = y in let _ = f in 1", puts{4: "L -> <E> '1"}, none},
		{"fun y -> rec f x = y in let _ = f in 1", puts{4: "L -> <E> int"}, 4},
		{"fun x -> rec x z = z in x 1", puts{1: "int of '1 -> <|2> '1", 2: "'1"}, 4}, // over the outer x, too
		{"fun x -> let x = fun z -> z in x 1", puts{2: "'1 -> <|2> '1", 3: "'1"}, 5},
		{"rec f x = let _ = x in 1 in 2", puts{2: "bool"}, 2},
		{"rec f f = let _ = f in 1 in 2", puts{2: "'1 -> <|1> int"}, 2},                    // the parameter is told last
		{"fun x -> let x = fun u -> x in 1", puts{2: "'3 -> <|3> '3", 3: "'3 in <|3>"}, 3}, // the outer x
		{"fun x -> let x = true in x", puts{0: "'1 -> <|1> '1", 1: "'1", 3: "'1"}, 3},      // the inner one
		{"fun x -> let y = (let x = 1 in x) in x", puts{0: "'1 -> <|1> int", 1: "int", 5: "int"}, 5},

		{"match Nil { Nil -> 1; Cons x y -> let _ = x in let _ = y in 2 }", puts{4: "bool"}, 4},
		{"match Nil { Nil -> 1; Cons x y -> let _ = x in let _ = y in 2 }", puts{6: "One"}, 6},
		{"match Nil { Nil -> 1; Cons x y -> let _ = x in let _ = y in 2 }", puts{6: "int"}, 6},
		{"match Nil { Nil -> 1; Cons x y -> let _ = x in let _ = y in 2 }", puts{4: "L"}, 4},
		{"match C { A x -> x; B y z -> (); C -> () }", puts{0: "bool", 2: "bool", 3: "bool", 4: "bool"}, 2},

		{"handle F f! 1 { return x -> let _ = x in 1; f x k -> 2 }", puts{4: "int"}, 4},
		{"handle F f! 1 { return x -> let _ = x in 1; f x k -> 2 }", puts{4: "'1"}, 4},
		{"handle F f! 1 { return x -> 1; f x k -> let _ = x in 2 }", puts{5: "bool"}, 5},
		{"handle F 1 { return x -> true; f x k -> let _ = k in true }", puts{4: "bool -> <console> bool"}, none},
		{"handle F 1 { return x -> true; f x k -> let _ = k in true }", puts{4: "int -> <console> bool"}, 4},
		{"handle F 1 { return x -> true; f x k -> let _ = k in true }", puts{4: "bool -> <console> int"}, 4},
		{"handle F 1 { return x -> true; f x k -> let _ = k in true }", puts{4: "bool -> <F,console> bool"}, 4},
		{"handle F 1 { return x -> true; f x k -> let _ = k in true }", puts{4: "bool -> bool"}, 4},
		{"handle E 1 { return x -> true; e x k -> true; tell x k -> let _ = k in let _ = x in true }", puts{5: "int -> <console> bool"}, 5},
		{"handle E 1 { return x -> true; e x k -> true; tell x k -> let _ = k in let _ = x in true }", puts{7: "unit"}, 7},
		{"fun u -> handle F u { return x -> fun y -> y; f x k -> k true }", puts{0: "'1 -> <|1> L -> <E> L", 1: "L -> <E> L", 3: "L -> <E> L", 4: "L in <E>", 5: "L -> <E> L", 6: "bool -> <|1> L -> <E> L"}, none},
		{"fun u -> handle F u { return x -> fun y -> y; f x k -> let _ = k in k true }", puts{6: "bool -> <|1> L -> <E> L"}, 6}, // k is not generalized
	})
}

// TestValues: what let gives a name is generalized, if it is a value, and only then.
func TestValues(t *testing.T) {
	for is, generalized := range map[string]bool{
		"fun z -> z":                                 true,
		"id":                                         true,
		"id id":                                      false,
		"(fun u -> u) (fun z -> z)":                  false,
		"let u = 1 in fun z -> z":                    false,
		"let u = fun z -> z in u":                    false,
		"rec u v = v in fun z -> z":                  false,
		"rec u v = v in u":                           false,
		"if true then fun z -> z else id":            false,
		"! ref (fun z -> z)":                         false,
		"match One(true) { One u -> id }":            false,
		"handle None id { return x -> x }":           false,
		"handle F id { return x -> x; f x k -> id }": false,
	} {
		p := typed(t, "let id = fun x -> x in let g = "+is+" in 1")
		let := &p.Body.Kids[1]
		wantCheck(t, is, p, 0, api.OK)
		if text := told(let.Kids[0]); !strings.HasPrefix(text, "'") {
			t.Fatalf("%s: %s", is, text)
		}
		one := let.Kids[1]
		g := api.Term{Kind: api.TermVar, Name: "g", At: 7, Type: typ("int -> <console> int"), Row: one.Row}
		let.Kids[1] = api.Term{Kind: api.TermApp, Type: one.Type, Row: one.Row, Kids: []api.Term{g, one}}
		if generalized {
			wantCheck(t, is, p, 0, api.OK)
		} else {
			wantCheck(t, is, p, 7, api.ErrType)
		}
	}
}

// TestReturnOperation: an operation may be named return; the first arm is that of the value all the same.
func TestReturnOperation(t *testing.T) {
	unit, whole := kind(api.TypUnit), kind(api.TypInt)
	p := api.Program{Effects: []api.Effect{{Name: "R", Ops: []api.OpSig{{Name: "return", Arg: whole, Res: unit}}}}}
	console, more := row(0, "console"), row(0, "R", "console")
	term := func(kind int, name string, of string, at int) api.Term {
		return api.Term{Kind: kind, Name: name, Type: typ(of), Row: console, At: at}
	}
	p.Body = term(api.TermHandle, "R", "bool", 1)
	handled := term(api.TermBool, "", "bool", 2)
	handled.Row = more
	p.Body.Kids = []api.Term{handled}
	arm := func(body api.Term, names ...string) api.Arm { return api.Arm{Name: "return", Vars: names, Body: body} }
	k := term(api.TermVar, "k", "unit -> <console> bool", 5)
	clause := api.Term{Kind: api.TermApp, Type: kind(api.TypBool), Row: console, At: 4, Kids: []api.Term{k, term(api.TermUnit, "", "unit", 6)}}
	p.Body.Arms = []api.Arm{arm(term(api.TermVar, "x", "bool", 3), "x"), arm(clause, "x", "k")}
	wantCheck(t, "return", p, 0, api.OK)
	p.Effects[0].Ops[0].Res = whole
	wantCheck(t, "return", p, 5, api.ErrType)
}
