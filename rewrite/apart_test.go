package rewrite_test

import (
	"testing"

	"brocade/api"
	"brocade/rewrite"
)

// TestApart has all that binds names, in the order in which they are numbered.
func TestApart(t *testing.T) {
	for source, apart := range map[string]string{
		"x": "x", "7": "7", "true": "1", "()": "()", "f x": "(f x)", "A(x, B)": "(A x (B))", "read ()": "(read)", "get! x": "(do get x)",
		"fun x -> x":                                             "(fun x'1 x'1)",
		"fun x -> y":                                             "(fun x'1 y)",
		"fun x -> fun x -> x":                                    "(fun x'1 (fun x'2 x'2))",
		"fun x -> fun y -> x y z":                                "(fun x'1 (fun y'2 ((x'1 y'2) z)))",
		"fun x -> (fun x -> x) x":                                "(fun x'1 ((fun x'2 x'2) x'1))",
		"fun x -> x (fun x -> x)":                                "(fun x'1 (x'1 (fun x'2 x'2)))",
		"(fun x -> x) x":                                         "((fun x'1 x'1) x)",
		"x (fun x -> x)":                                         "(x (fun x'1 x'1))",
		"(fun x -> x) (fun x -> x)":                              "((fun x'1 x'1) (fun x'2 x'2))",
		"let x = 1 in x":                                         "(let x'1 1 x'1)",
		"let x = x in x":                                         "(let x'1 x x'1)",
		"let x = fun y -> y in fun y -> x y":                     "(let x'1 (fun y'2 y'2) (fun y'3 (x'1 y'3)))",
		"let x = let x = x in x in x":                            "(let x'1 (let x'2 x x'2) x'1)",
		"let x = 1 in let x = x in x":                            "(let x'1 1 (let x'2 x'1 x'2))",
		"rec f x = f x in f x":                                   "(rec f'1 x'2 (f'1 x'2) (f'1 x))",
		"rec f x = fun f -> f in fun x -> f x":                   "(rec f'1 x'2 (fun f'3 f'3) (fun x'4 (f'1 x'4)))",
		"rec x x = x in x":                                       "(rec x'1 x'2 x'2 x'1)",
		"fun x -> rec f x = x in f x":                            "(fun x'1 (rec f'2 x'3 x'3 (f'2 x'1)))",
		"fun f -> rec f x = f in f":                              "(fun f'1 (rec f'2 x'3 f'2 f'2))",
		"if fun x -> x then fun x -> x else x":                   "(if (fun x'1 x'1) (fun x'2 x'2) x)",
		"(fun x -> x) + (fun y -> y)":                            "(+ (fun x'1 x'1) (fun y'2 y'2))",
		"C(fun x -> x, fun x -> x, x)":                           "(C (fun x'1 x'1) (fun x'2 x'2) x)",
		"get! (fun x -> x)":                                      "(do get (fun x'1 x'1))",
		"match x { }":                                            "(match x)",
		"match x { A x y -> x; B -> x }":                         "(match x {A x'1 y'2: x'1} {B: x})",
		"match x { A x -> x; B x -> x }":                         "(match x {A x'1: x'1} {B x'2: x'2})",
		"match x { A x -> fun y -> x; B y z -> fun x -> z y x }": "(match x {A x'1: (fun y'2 x'1)} {B y'3 z'4: (fun x'5 ((z'4 y'3) x'5))})",
		"match fun x -> x { A x -> x }":                          "(match (fun x'1 x'1) {A x'2: x'2})",
		"match x { A x y x -> x y }":                             "(match x {A x'1 y'2 x'3: (x'3 y'2)})",
		"handle E x { return x -> x; get x k -> k x }":           "(handle E x {return x'1: x'1} {get x'2 k'3: (k'3 x'2)})",
		"handle E (fun k -> k) { return k -> k; get x k -> fun x -> k x }":      "(handle E (fun k'1 k'1) {return k'2: k'2} {get x'3 k'4: (fun x'5 (k'4 x'5))})",
		"handle E get! k { return get -> get; get x x -> x; put k x -> k get }": "(handle E (do get k) {return get'1: get'1} {get x'2 x'3: x'3} {put k'4 x'5: (k'4 get)})",
	} {
		want(t, source, text(rewrite.Apart(read(t, source))), apart)
	}
}

// TestApartNobody: a binder's `_` is another name, too; but it binds nothing: variables `_` are free, and stay.
func TestApartNobody(t *testing.T) {
	for source, apart := range map[string]string{
		"_":                                  "_",
		"fun _ -> x":                         "(fun _'1 x)",
		"fun _ -> fun _ -> 1":                "(fun _'1 (fun _'2 1))",
		"let _ = _ in 1":                     "(let _'1 _ 1)",
		"rec _ _ = 1 in 2":                   "(rec _'1 _'2 1 2)",
		"match x { A _ _ y -> y; B _ -> 1 }": "(match x {A _'1 _'2 y'3: y'3} {B _'4: 1})",
		"handle E 1 { return _ -> 1; get _ k -> k 1; put x _ -> x }": "(handle E 1 {return _'1: 1} {get _'2 k'3: (k'3 1)} {put x'4 _'5: x'4})",
		"fun _ -> _":                         "(fun _'1 _)",
		"fun x -> fun _ -> x":                "(fun x'1 (fun _'2 x'1))",
		"fun x -> fun _ -> x _":              "(fun x'1 (fun _'2 (x'1 _)))",
		"(fun _ -> _) _":                     "((fun _'1 _) _)",
		"let _ = _ in _":                     "(let _'1 _ _)",
		"let _ = fun _ -> _ in fun x -> _ x": "(let _'1 (fun _'2 _) (fun x'3 (_ x'3)))",
		"rec _ x = _ x in _":                 "(rec _'1 x'2 (_ x'2) _)",
		"rec f _ = f _ in f _":               "(rec f'1 _'2 (f'1 _) (f'1 _))",
		"rec _ _ = _ in _":                   "(rec _'1 _'2 _ _)",
		"match () { A _ -> _ }":              "(match () {A _'1: _})",
		"match () { A x _ x -> _ x }":        "(match () {A x'1 _'2 x'3: (_ x'3)})",
		"fun _ -> match x { A _ _ -> _ }":    "(fun _'1 (match x {A _'2 _'3: _}))",
		"handle E _ { return _ -> _; get _ k -> k _; put x _ -> _ x }": "(handle E _ {return _'1: _} {get _'2 k'3: (k'3 _)} {put x'4 _'5: (_ x'4)})",
	} {
		want(t, source, text(rewrite.Apart(read(t, source))), apart)
	}
}

// TestApartNames has names that are none of a source.
func TestApartNames(t *testing.T) {
	for _, one := range []struct {
		term  api.Term
		apart string
	}{
		{fun("", variable("")), "(fun '1 '1)"},
		{fun("x'1", variable("x'1")), "(fun x'1'1 x'1'1)"},
		{fun("x'1", fun("x", pair(variable("x'1"), variable("x")))), "(fun x'1'1 (fun x'2 (Pair x'1'1 x'2)))"},
		{fun("x", variable("x'1")), "(fun x'1 x'1)"},
		{fun("X y", variable("X y")), "(fun X y'1 X y'1)"},
		{fun("\xff\x00", variable("\xff\x00")), "(fun \xff\x00'1 \xff\x00'1)"},
	} {
		want(t, one.term, text(rewrite.Apart(one.term)), one.apart)
	}
	want(t, "nothing", rewrite.Apart(api.Term{}), api.Term{})
}

// TestApartTwice: numbers are put behind names that have some already.
func TestApartTwice(t *testing.T) {
	term := rewrite.Apart(read(t, "fun x -> let y = x in y"))
	want(t, "once", text(term), "(fun x'1 (let y'2 x'1 y'2))")
	want(t, "twice", text(rewrite.Apart(term)), "(fun x'1'1 (let y'2'2 x'1'1 y'2'2))")
	many := api.Term{Kind: api.TermUnit}
	for range 12 {
		many = fun("x", many)
	}
	nobody := fun("_", variable("_"))
	want(t, "nobody", text(rewrite.Apart(rewrite.Apart(nobody))), "(fun _'1'1 _)")
	want(t, "many", text(rewrite.Apart(many)), "(fun x'1 (fun x'2 (fun x'3 (fun x'4 (fun x'5 (fun x'6 (fun x'7 (fun x'8 (fun x'9 (fun x'10 (fun x'11 (fun x'12 ()))))))))))))")
}

// TestApartKinds: names of operators, constructors, operations and effects stay, whatever is bound.
func TestApartKinds(t *testing.T) {
	for _, name := range []string{"x", "_", "+"} {
		for kind := -1; kind < 17; kind++ {
			term := api.Term{Kind: kind, Name: name, Param: name, N: 3, Arms: []api.Arm{arm(name, variable("y"))}, Kids: []api.Term{variable("y")}}
			got := rewrite.Apart(fun(name, term)).Kids[0]
			became := term
			switch kind {
			case api.TermVar:
				if name != "_" {
					became.Name = name + "'1"
				}
			case api.TermFun, api.TermLet:
				became.Name = name + "'2"
			case api.TermRec:
				became.Name, became.Param = name+"'2", name+"'3"
			}
			want(t, kind, got, became)
		}
	}
}
