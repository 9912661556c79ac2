package infer_test

import (
	"slices"
	"testing"

	"brocade/api"
	"brocade/infer"
	"brocade/types"
)

// bodies are sources, behind the declarations, and their types; none of those that are wrong.
func bodies() map[string]string {
	return map[string]string{
		"1": "int", "true": "bool", "false": "bool", "()": "unit",
		"fun x -> x":                                   "'1 -> <|1> '1",
		"fun x -> 1":                                   "'1 -> <|1> int",
		"fun x -> fun y -> x":                          "'1 -> <|1> '2 -> <|2> '1",
		"fun x -> fun y -> y":                          "'1 -> <|1> '2 -> <|2> '2",
		"fun x -> fun x -> x":                          "'1 -> <|1> '2 -> <|2> '2",
		"fun _ -> ()":                                  "'1 -> <|1> unit",
		"fun f -> fun x -> f x":                        "('1 -> <|1> '2) -> <|2> '1 -> <|1> '2",
		"fun f -> f 1":                                 "(int -> <|1> '1) -> <|1> '1",
		"fun f -> fun x -> f(f x)":                     "('1 -> <|1> '1) -> <|2> '1 -> <|1> '1",
		"fun f -> fun g -> fun x -> f (g x)":           "('1 -> <|1> '2) -> <|2> ('3 -> <|1> '1) -> <|3> '3 -> <|1> '2",
		"fun f -> f f () ":                             "",
		"(fun x -> x) 1":                               "int",
		"if true then 1 else 2":                        "int",
		"fun x -> fun y -> if x then y else y":         "bool -> <|1> '1 -> <|2> '1",
		"fun x -> fun y -> if true then x else y":      "'1 -> <|1> '1 -> <|2> '1",
		"fun x -> if x < 1 then x else x / 2 - 3 * x":  "int -> <|1> int",
		"fun x -> fun y -> x = y":                      "int -> <|1> int -> <|2> bool",
		"print 1":                                      "unit",
		"fun x -> print x":                             "int -> <console|1> unit",
		"fun x -> read () + x":                         "int -> <console|1> int",
		"read ()":                                      "int",
		"fun x -> ref x":                               "'1 -> <|1> ref '1",
		"fun x -> ! x":                                 "ref '1 -> <|1> '1",
		"fun x -> fun y -> x := y":                     "ref '1 -> <|1> '1 -> <|2> unit",
		"fun x -> x := !x + 1":                         "ref int -> <|1> unit",
		"fun x -> x := x":                              "",
		"fun x -> ref ref x":                           "'1 -> <|1> ref (ref '1)",
		"Nil":                                          "L",
		"fun x -> Cons(x, Nil)":                        "int -> <|1> L",
		"fun x -> match x { Nil -> 0; Cons h r -> h }": "L -> <|1> int",
		"fun x -> fun y -> match x { A _ -> y; B _ _ -> y; C -> y }": "Three -> <|1> '1 -> <|2> '1",
		"fun x -> match x { A x -> A(x); B x y -> B(x, y); C -> x }": "Three -> <|1> Three",
		"fun x -> e! x":                                                                 "unit -> <E|1> int",
		"fun x -> f! e! x":                                                              "unit -> <E,F|1> bool",
		"fun x -> let _ = e! () in e! x":                                                "unit -> <E|1> int",
		"fun g -> let _ = g () in print e! ()":                                          "(unit -> <E,console|1> '1) -> <E,console|1> unit",
		"fun g -> let _ = tell!Nil in let _ = g 1 in f!2":                               "(int -> <E,F|1> '1) -> <E,F|1> bool",
		"handle F f! 1 { return x -> x; f x k -> k true }":                              "bool",
		"handle F 1 { return x -> x; f x k -> k }":                                      "",
		"handle F 1 { return x -> fun b -> x; f x k -> fun b -> k b b }":                "bool -> <console> int",
		"handle F 1 { return x -> fun b -> x; f x k -> k }":                             "",
		"handle None 1 { return x -> true }":                                            "bool",
		"fun g -> handle F g () { return x -> x; f x k -> k (x < 1) }":                  "(unit -> <F|1> '1) -> <|1> '1",
		"fun g -> handle F g () { return x -> fun _ -> 1; f x k -> fun y -> k true y }": "(unit -> <F|1> '1) -> <|1> '2 -> <|1> int",
		"fun g -> handle F handle F g () { return x -> x; f x k -> k true } { return x -> x; f x k -> k (f! x) }": "(unit -> <F,F,F|1> '1) -> <F|1> '1",
		"fun g -> handle E (let _ = g () in e! ()) { return x -> x; e x k -> k 1; tell x k -> 2 }":                "(unit -> <E|1> '1) -> <|1> int",
		"fun x -> handle E tell! x { return x -> e! (); e x k -> k 1 ; tell x k -> k x }":                         "",
		"fun x -> handle E tell! x { return x -> e! (); e x k -> k 1 ; tell x k -> k () }":                        "L -> <E|1> int",
		"let id = fun x -> x in id id 1":                                                                       "int",
		"let id = fun x -> x in let _ = id 1 in id true":                                                       "bool",
		"let id = fun x -> x in id":                                                                            "'1 -> <|1> '1",
		"let id = (fun x -> x) (fun x -> x) in id":                                                             "'1 -> <|1> '1",
		"let id = (fun x -> x) (fun x -> x) in let _ = id 1 in id":                                             "int -> <console> int",
		"let id = (fun x -> x) (fun x -> x) in let _ = id 1 in id true":                                        "",
		"let id = if true then fun x -> x else fun x -> x in let _ = id 1 in id true":                          "",
		"let r = ref (fun x -> x) in let _ = r := (fun x -> x + 1) in ! r":                                     "int -> <|1> int",
		"let r = ref (fun x -> x) in let _ = r := (fun x -> x + 1) in ! r true":                                "",
		"fun x -> let y = x in y":                                                                              "'1 -> <|1> '1",
		"fun x -> let y = fun _ -> x in let _ = y 1 in y true":                                                 "'1 -> <|1> '1",
		"fun x -> let y = fun z -> x z in let _ = y 1 in y":                                                    "(int -> <|1> '1) -> <|1> int -> <|1> '1",
		"fun x -> let y = fun z -> x z in let _ = y 1 in y true":                                               "",
		"let f = fun x -> print 1 in let g = fun x -> 1 in let _ = f 1 in g":                                   "'1 -> <|1> int",
		"let g = fun h -> let _ = h () in e! () in fun u -> let _ = g (fun _ -> print 1) in g (fun u -> f! 2)": "'1 -> <E,F,console|1> int",
		"rec f x = f x in f": "'1 -> <|1> '2",
		"rec f x = if x = 0 then 1 else x * f (x - 1) in f": "int -> <|1> int",
		"rec f x = fun y -> if true then y else f y x in f": "'1 -> <|1> '1 -> <|1> '1",
		"rec f x = x in let _ = f 1 in f true":              "bool",
		"rec f x = let _ = f 1 in f true in f":              "",
		"rec f x = f in f":                                  "",
		"rec f f = f in f":                                  "'1 -> <|1> '1",
		"rec _ x = x in 1":                                  "int",
		"rec map g = fun l -> match l { Nil -> Nil ; Cons x r -> Cons(g x, map g r) } in map":       "(int -> <|1> int) -> <|1> L -> <|1> L",
		"rec loop u = let _ = print e! u in loop u in loop":                                         "unit -> <E,console|1> '1",
		"rec f x = handle F f x { return y -> y; f a k -> k true } in 1":                            "",
		"fun x -> let y = One(x) in match y { One b -> b }":                                         "bool -> <|1> bool",
		"let y = Cons(1, Nil) in y":                                                                 "L",
		"fun x -> x x":                                                                              "",
		"fun x -> fun y -> if true then x else (if true then y else ref x)":                         "",
		"fun a -> fun b -> fun c -> let _ = if true then a else ref b in if true then b else ref c": "ref (ref '1) -> <|1> ref '1 -> <|2> '1 -> <|3> ref '1",
		"fun g -> fun h -> let _ = if true then g else h in let _ = g (e! ()) in h":                 "(int -> <E|1> '1) -> <|2> (int -> <E|1> '1) -> <E|1> int -> <E|1> '1",
		"fun g -> fun h -> let a = fun _ -> let _ = g 1 in e! () in let b = fun _ -> let _ = h 1 in f! 1 in let _ = if true then g else h in fun _ -> a": "(int -> <E,F|1> '1) -> <|2> (int -> <E,F|1> '1) -> <|3> '2 -> <|4> '3 -> <E,F|1> int",
	}
}

// TestBody has the types of bodies, as the rules of chapter 4 tell them.
func TestBody(t *testing.T) {
	for source, want := range bodies() {
		p := read(t, declarations+source)
		if want == "" {
			wantError(t, source, p, api.ErrType)
			continue
		}
		if got := types.Text(infers(t, source, p).Body.Type); got != want {
			t.Errorf("%s: %s, not %s", source, got, want)
		}
	}
}

// TestTerms has all that is inferred of all terms, in order: Type, then (of rec) Own, then Row.
func TestTerms(t *testing.T) {
	for source, want := range map[string][]string{
		"1":          {"int in <console>"},
		"fun x -> x": {"'1 -> <|1> '1 in <console>", "'1 in <|1>"},
		"fun x -> fun y -> x": {
			"'1 -> <|1> '2 -> <|2> '1 in <console>",
			"'2 -> <|2> '1 in <|1>",
			"'1 in <|2>",
		},
		"let id = fun x -> x in id id": {
			"'1 -> <|1> '1 in <console>",
			"'2 -> <|2> '2 in <console>",
			"'2 in <|2>",
			"'1 -> <|1> '1 in <console>",
			"('1 -> <|1> '1) -> <console> '1 -> <|1> '1 in <console>",
			"'1 -> <|1> '1 in <console>",
		},
		"rec f x = f x in 1": {
			"int of '1 -> <|1> '2 in <console>",
			"'2 in <|1>",
			"'1 -> <|1> '2 in <|1>",
			"'1 in <|1>",
			"int in <console>",
		},
		"rec f x = f x in f": {
			"'1 -> <|1> '2 of '3 -> <|2> '4 in <console>",
			"'4 in <|2>",
			"'3 -> <|2> '4 in <|2>",
			"'3 in <|2>",
			"'1 -> <|1> '2 in <console>",
		},
		"fun z -> rec f x = x in z": {
			"'1 -> <|1> '1 in <console>",
			"'1 of '2 -> <|2> '2 in <|1>",
			"'2 in <|2>",
			"'1 in <|1>",
		},
		"fun g -> handle F g 1 { return x -> Nil; f y k -> k true }": {
			"(int -> <F|1> '1) -> <|1> L in <console>",
			"L in <|1>",
			"'1 in <F|1>",
			"int -> <F|1> '1 in <F|1>",
			"int in <F|1>",
			"L in <|1>",
			"L in <|1>",
			"bool -> <|1> L in <|1>",
			"bool in <|1>",
		},
		"match Nil { Nil -> fun x -> x ; Cons h t -> fun x -> x }": {
			"'1 -> <|1> '1 in <console>",
			"L in <console>",
			"'1 -> <|1> '1 in <console>",
			"'1 in <|1>",
			"'1 -> <|1> '1 in <console>",
			"'1 in <|1>",
		},
		"let _ = fun u -> e! u in handle E print e! () { return x -> 1; e u k -> k 1; tell l k -> 2 }": {
			"int in <console>",
			"unit -> <E|1> int in <console>",
			"int in <E|1>",
			"unit in <E|1>",
			"int in <console>",
			"unit in <E,console>",
			"int in <E,console>",
			"unit in <E,console>",
			"int in <console>",
			"int in <console>",
			"int -> <console> int in <console>",
			"int in <console>",
			"int in <console>",
		},
		"fun r -> r := (if ! r < 1 then 2 else read ())": {
			"ref int -> <console|1> unit in <console>",
			"unit in <console|1>",
			"ref int in <console|1>",
			"int in <console|1>",
			"bool in <console|1>",
			"int in <console|1>",
			"ref int in <console|1>",
			"int in <console|1>",
			"int in <console|1>",
			"int in <console|1>",
		},
	} {
		got := all(infers(t, source, read(t, declarations+source)).Body)
		if !slices.Equal(got, want) {
			t.Errorf("%s: %q, not %q", source, got, want)
		}
	}
}

// wrongs are sources, behind the declarations, that are against the rules.
func wrongs() []string {
	return []string{
		"1 1", "true ()", "(fun x -> x + 1) true", "(fun x -> x) 1 2", "fun x -> x 1 + x", "Nil 1", "(ref 1) 1",
		"let x = 1 in x ()", "let x = 1 1 in 2", "let x = fun y -> y 1 in x 2", "fun x -> let y = x in let _ = y 1 in y true",
		"rec f x = 1 1 in 2", "rec f x = x in f + 1", "rec f x = x + 1 in f true", "rec f x = f in 1", "rec f x = f + 1 in 1",
		"if 1 then 2 else 3", "if () then 2 else 3", "if true then 1 else true", "if true then () else 1", "fun x -> if x then x else 1",
		"1 + true", "true + 1", "() - 1", "1 * ()", "Nil / 1", "1 < true", "false < 1", "true = true", "() = ()", "Nil = Nil",
		"(fun x -> x) = (fun x -> x)",
		"print true", "print ()", "print print 1", "! 1", "! true", "! (fun x -> x)", "! ! ref 1", "1 := 1", "ref 1 := true", "ref true := 1",
		"ref ref 1 := ref true", "fun x -> x := ref ! x", "print ref 1",
		"(ref 1 := 2) + 1", "print (1 < 2)", "read () 1",
		"Cons(true, Nil)", "Cons(1, 1)", "Cons(Nil, 1)", "One(1)", "A(1)", "B(1, C)", "Cons(1, One(true))",
		"match 1 { Nil -> 1; Cons x y -> 2 }", "match One(true) { Nil -> 1; Cons x y -> 2 }", "match Nil { One x -> 1 }",
		"match Nil { Nil -> 1; Cons x y -> true }", "match Nil { Nil -> Nil; Cons x y -> x }",
		"match Nil { Nil -> 1; Cons x y -> y }", "match C { A x -> x; B x y -> x; C -> 1 }", "match C { A x -> 1; B x y -> 1 + y; C -> 1 }",
		"match (fun x -> x) { One x -> 1 }", "match Nil { Nil -> ! 1; Cons x y -> 1 }",
		"e! ()", "f! 1", "fun x -> x + f! 1", "fun x -> e! 1", "fun x -> f! ()", "fun x -> f! true", "fun x -> tell! One(true)",
		"handle F e! () { return x -> x; f x k -> x }", "let g = fun x -> e! x in g ()", "(fun x -> e! x) ()", "let _ = e! () in 1",
		"if f! 1 then 1 else 2", "Cons(e! (), Nil)",
		"handle F 1 1 { return x -> 1; f x k -> 1 }", "handle F f! true { return x -> x; f x k -> k true }",
		"handle F f! 1 { return x -> x + 1; f x k -> 1 }", "handle F 1 { return x -> x; f x k -> true }", "handle F true { return x -> x; f x k -> x }",
		"handle F true { return x -> x; f x k -> k x }", "handle F 1 { return x -> true; f x k -> k 1 }",
		"handle F 1 { return x -> true; f x k -> k true + 1 }", "handle F 1 { return x -> x; f x k -> k }", "handle F 1 { return x -> x x; f x k -> 1 }",
		"handle F f! 1 { return x -> f! 1; f x k -> k true }", "handle F f! 1 { return x -> x; f x k -> f! x }",
		"handle E handle F e! () { return x -> f! x; f x k -> true } { return x -> x; e x k -> true; tell x k -> false }",
		"handle E e! () { return x -> x; e x k -> k true; tell x k -> k () }", "handle E e! () { return x -> x; e x k -> k x; tell x k -> 1 }",
		"handle E e! () { return x -> x; e x k -> 1; tell x k -> x }", "handle None print true { return x -> 1 }", "handle None 1 { return x -> x () }",
		"fun x -> x x", "rec f x = x f in 1", "fun x -> ref x = x", "fun f -> fun x -> f (f x) + f true",
		"let h = fun g -> handle F g () { return x -> x; f x k -> k true } in h (fun u -> e! u)",
		"let h = fun g -> handle F g () { return x -> x; f x k -> k true } in h (fun u -> handle F f! 1 { return x -> f! 1; f x k -> e! () })",
		"fun g -> let a = fun u -> handle F g u { return x -> x ; f x k -> k true } in let b = fun u -> g u in if true then a else b",
	}
}

// TestWrong has for each rule what is against it.
func TestWrong(t *testing.T) {
	for _, source := range wrongs() {
		wantError(t, source, read(t, declarations+source), api.ErrType)
		wantError(t, source, read(t, declarations+"let y = "+source+" in z"), api.ErrScope) // Check goes ahead
	}
}

// TestWrongWithin: what is wrong is wrong wherever it stands.
func TestWrongWithin(t *testing.T) {
	for _, around := range []string{
		"#", "fun x -> #", "# 1", "(fun x -> x) #", "let x = # in 1", "let x = 1 in #", "let x = fun x -> # in 1", "rec f x = # in 1", "rec f x = 1 in #",
		"if # then 1 else 2", "if true then # else 2", "if true then 1 else #", "# + 1", "1 + #", "# := 1", "ref 1 := #", "print #", "ref #", "! #", "Cons(#, Nil)", "Cons(1, #)",
		"match # { One x -> x }", "match Nil { Nil -> #; Cons x y -> 1 }", "match Nil { Nil -> 1; Cons x y -> # }", "fun x -> e! #",
		"handle E # { return x -> 1; e x k -> 1; tell x k -> 1 }", "handle E 1 { return x -> #; e x k -> 1; tell x k -> 1 }", "handle E 1 { return x -> 1; e x k -> #; tell x k -> 1 }", "handle E 1 { return x -> 1; e x k -> 1; tell x k -> # }",
	} {
		for _, wrong := range []string{"1 1", "(true + 1)", "! ()", "(fun x -> x x)", "f! Nil"} {
			in := ""
			for _, c := range around {
				if c == '#' {
					in += "(" + wrong + ")"
				} else {
					in += string(c)
				}
			}
			wantError(t, in, read(t, declarations+in), api.ErrType)
		}
	}
}

// TestCheckFirst: of programs that chapter 6 does not take, what that answers, and nothing else.
func TestCheckFirst(t *testing.T) {
	for _, x := range []struct {
		source string
		at     int
	}{
		{"fun x -> y", 9}, {"let f = 1 1 in x", 15}, {"let x = x in 1", 8}, {"_", 0}, {"fun _ -> _", 9}, {"data D { D } data D { } 1", 0}, {"effect E { e : A -> int } 1", 0},
		{"A", 0}, {"e! 1", 0}, {"handle E 1 { return x -> x }", 0}, {"1 1 + x", 6}, {"match 1 { A -> 1 }", 0},
	} {
		p := read(t, x.source)
		p.Body.Type = kind(api.TypInt)
		if got, at, err := infer.Infer(p); err != api.ErrScope || at != x.at || got.Body.Kind != 0 || got.Effects != nil || got.Datas != nil || got.Body.Type.Kind != 0 {
			t.Errorf("%s: %v at %d, with %+v", x.source, err, at, got)
		}
	}
	p := api.Program{Effects: make([]api.Effect, api.MaxLabels), Body: term(api.TermUnit, "")}
	p.Body.At = 5
	if _, at, err := infer.Infer(p); err != api.ErrLimit || at != 0 {
		t.Errorf("too many effects: %v at %d", err, at)
	}
}
