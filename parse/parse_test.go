package parse_test

import (
	"strconv"
	"strings"
	"testing"

	"brocade/api"
	"brocade/parse"
)

func TestAtoms(t *testing.T) {
	for source, want := range map[string]string{
		"0":                   "0@0",
		" 007":                "7@1",
		"9223372036854775807": "9223372036854775807@0",
		"true":                "bool1@0",
		"# note\nfalse ":      "bool0@7",
		"x":                   "x@0",
		"_x1":                 "_x1@0",
		"()":                  "unit@0",
		" ( # )\n ) ":         "unit@1",
		"(x)":                 "x@1",
		"((x))":               "x@2",
		"(())":                "unit@1",
		"( true )":            "bool1@2",
		"read ()":             "(op@0 read)",
		"read#\n(\n)":         "(op@0 read)",
		"(read())":            "(op@1 read)",
	} {
		wantProgram(t, source, want)
	}
}

// TestFields has an ( right behind a large name, or not.
func TestFields(t *testing.T) {
	for source, want := range map[string]string{
		"C":                "(con@0 C)",
		"C()":              "(con@0 C)",
		"C ()":             "(con@0 C)",
		"C # note\n ( )":   "(con@0 C)",
		"C () ()":          "(app@0 (con@0 C) unit@5)",
		"C(())":            "(con@0 C unit@2)",
		"C (x)":            "(con@0 C x@3)",
		"C ((x))":          "(con@0 C x@4)",
		"C (x) (y)":        "(app@0 (con@0 C x@3) y@7)",
		"(C) (x)":          "(app@1 (con@1 C) x@5)",
		"(C) ()":           "(app@1 (con@1 C) unit@4)",
		"C x":              "(app@0 (con@0 C) x@2)",
		"C x (y)":          "(app@0 (app@0 (con@0 C) x@2) y@5)",
		"f C (x)":          "(app@0 f@0 (con@2 C x@5))",
		"f C D (x)":        "(app@0 (app@0 f@0 (con@2 C)) (con@4 D x@7))",
		"C (1, D, E (2))":  "(con@0 C 1@3 (con@6 D) (con@9 E 2@12))",
		"C(fun x -> x, 1)": "(con@0 C (fun@2 x x@11) 1@14)",
		"C(x := 1, 1 < 2)": "(con@0 C (op@2 := x@2 1@7) (op@10 < 1@10 2@14))",
	} {
		wantProgram(t, source, want)
	}
	if p, _, _ := parse.Parse([]byte("C()")); len(p.Body.Kids) != 0 {
		t.Errorf("fields: %v", p.Body.Kids)
	}
}

func TestApplications(t *testing.T) {
	for source, want := range map[string]string{
		"f x":        "(app@0 f@0 x@2)",
		"f x y":      "(app@0 (app@0 f@0 x@2) y@4)",
		"f (x y)":    "(app@0 f@0 (app@3 x@3 y@5))",
		"(f x) y":    "(app@1 (app@1 f@1 x@3) y@6)",
		"((f) x) y":  "(app@2 (app@2 f@2 x@5) y@8)",
		"f()":        "(app@0 f@0 unit@1)",
		"1 true":     "(app@0 1@0 bool1@2)",
		"f read() 2": "(app@0 (app@0 f@0 (op@2 read)) 2@9)",
		"read()()":   "(app@0 (op@0 read) unit@6)",
		"f 1()false": "(app@0 (app@0 (app@0 f@0 1@2) unit@3) bool0@5)",
	} {
		wantProgram(t, source, want)
	}
}

func TestUnary(t *testing.T) {
	for source, want := range map[string]string{
		"print 1":                "(op@0 print 1@6)",
		"ref x":                  "(op@0 ref x@4)",
		"!x":                     "(op@0 ! x@1)",
		"! # note\nx":            "(op@0 ! x@9)",
		"get!x":                  "(do@0 get x@4)",
		"get! get!()":            "(do@0 get (do@5 get unit@9))",
		"print ref ! op! x":      "(op@0 print (op@6 ref (op@10 ! (do@12 op x@16))))",
		"op! !ref print x":       "(do@0 op (op@4 ! (op@5 ref (op@9 print x@15))))",
		"!!x":                    "(op@0 ! (op@1 ! x@2))",
		"print!x":                "(op@0 print (op@5 ! x@6))",
		"print print f x":        "(op@0 print (op@6 print (app@12 f@12 x@14)))",
		"get!f x y":              "(do@0 get (app@4 (app@4 f@4 x@6) y@8))",
		"(get!f) x":              "(app@1 (do@1 get f@5) x@8)",
		"print C (1)":            "(op@0 print (con@6 C 1@9))",
		"!x + !y":                "(op@0 + (op@0 ! x@1) (op@5 ! y@6))",
		"print get!()":           "(op@0 print (do@6 get unit@10))",
		"print (1 + 2)":          "(op@0 print (op@7 + 1@7 2@11))",
		"print (fun x -> x)":     "(op@0 print (fun@7 x x@16))",
		"x := ref print 1 := 2 ": "",
	} {
		if want == "" {
			wantFault(t, source, strings.LastIndex(source, ":="), api.ErrSyntax)
			continue
		}
		wantProgram(t, source, want)
	}
}

// TestOneLevel and TestTwoLevels have each operator beside each other one.
func TestOneLevel(t *testing.T) {
	for _, pair := range []string{"+-", "*/"} {
		for i := range 4 {
			first, second := pair[i/2:i/2+1], pair[i%2:i%2+1]
			wantProgram(t, "1"+first+"2"+second+"3", "(op@0 "+second+" (op@0 "+first+" 1@0 2@2) 3@4)")
			wantProgram(t, "1"+first+"(2"+second+"3)", "(op@0 "+first+" 1@0 (op@3 "+second+" 2@3 3@5))")
			wantProgram(t, "(1"+first+"2)"+second+"3", "(op@1 "+second+" (op@1 "+first+" 1@1 2@3) 3@6)")
		}
	}
	for _, first := range []string{"<", "="} {
		for _, second := range []string{"<", "="} {
			wantFault(t, "1 "+first+" 2 "+second+" 3", 6, api.ErrSyntax)
			wantProgram(t, "(1 "+first+" 2) "+second+" 3", "(op@1 "+second+" (op@1 "+first+" 1@1 2@5) 3@10)")
			wantProgram(t, "1 "+first+" (2 "+second+" 3)", "(op@0 "+first+" 1@0 (op@5 "+second+" 2@5 3@9))")
		}
	}
	wantFault(t, "x := y := z", 7, api.ErrSyntax)
	wantProgram(t, "x := (y := z)", "(op@0 := x@0 (op@6 := y@6 z@11))")
	wantProgram(t, "1-2-3-4", "(op@0 - (op@0 - (op@0 - 1@0 2@2) 3@4) 4@6)")
}

func TestTwoLevels(t *testing.T) {
	levels := []string{":=", "< =", "+ -", "* /"}
	for low := range levels {
		for high := low + 1; high < len(levels); high++ {
			for _, weak := range strings.Fields(levels[low]) {
				for _, strong := range strings.Fields(levels[high]) {
					source := "1 " + weak + " 2 " + strong + " 3"
					at := strconv.Itoa(3 + len(weak))
					last := strconv.Itoa(len(source) - 1)
					wantProgram(t, source, "(op@0 "+weak+" 1@0 (op@"+at+" "+strong+" 2@"+at+" 3@"+last+"))")
					source = "1 " + strong + " 2 " + weak + " 3"
					at = strconv.Itoa(3 + len(strong))
					wantProgram(t, source, "(op@0 "+weak+" (op@0 "+strong+" 1@0 2@"+at+") 3@"+last+")")
				}
			}
		}
	}
	wantProgram(t, "a := b < c + d * !e", "(op@0 := a@0 (op@5 < b@5 (op@9 + c@9 (op@13 * d@13 (op@17 ! e@18)))))")
	wantProgram(t, "f x + 1", "(op@0 + (app@0 f@0 x@2) 1@6)")
	wantProgram(t, "a-1", "(op@0 - a@0 1@2)")
}

func TestKeywordTerms(t *testing.T) {
	for source, want := range map[string]string{
		"fun x -> x":                                  "(fun@0 x x@9)",
		"fun x -> fun y -> x y":                       "(fun@0 x (fun@9 y (app@18 x@18 y@20)))",
		"fun x -> x := 1":                             "(fun@0 x (op@9 := x@9 1@14))",
		"(fun x -> x) 1":                              "(app@1 (fun@1 x x@10) 1@13)",
		"let x = 1 in x":                              "(let@0 x 1@8 x@13)",
		"let x = let y = 1 in y in x + 1":             "(let@0 x (let@8 y 1@16 y@21) (op@26 + x@26 1@30))",
		"let x = 1 = 2 in x":                          "(let@0 x (op@8 = 1@8 2@12) x@17)",
		"rec f x = f x in f 1":                        "(rec@0 f x (app@10 f@10 x@12) (app@17 f@17 1@19))",
		"rec f f = f in f":                            "(rec@0 f f f@10 f@15)",
		"if true then 1 else 2":                       "(if@0 bool1@3 1@13 2@20)",
		"if if a then b else c then d else e + 1":     "(if@0 (if@3 a@6 b@13 c@20) d@27 (op@34 + e@34 1@38))",
		"match x { }":                                 "(match@0 x@6)",
		"match x{}":                                   "(match@0 x@6)",
		"match x { A -> 1 }":                          "(match@0 x@6 [A: 1@15])",
		"match x { A -> 1; B y z -> y; A -> z }":      "(match@0 x@6 [A: 1@15] [B y z: y@27] [A: z@35])",
		"match C (x) { C x x -> fun y -> y }":         "(match@0 (con@6 C x@9) [C x x: (fun@23 y y@32)])",
		"match match x { } { A -> match y { } }":      "(match@0 (match@6 x@12) [A: (match@25 y@31)])",
		"match fun x -> x { A -> if a then b else c}": "(match@0 (fun@6 x x@15) [A: (if@24 a@27 b@34 c@41)])",
		"handle E x { return y -> y }":                "(handle@0 E x@9 [return y: y@25])",
		"handle E (x) { return y -> y }":              "(handle@0 E x@10 [return y: y@27])",
		"handle E () { return y -> y }":               "(handle@0 E unit@9 [return y: y@26])",
		"handle E C () { return y -> y }":             "(handle@0 E (con@9 C) [return y: y@28])",
		"handle E E (1) { return y -> y }":            "(handle@0 E (con@9 E 1@12) [return y: y@29])",
		"handle E get!() { return x -> x; get a k -> k a; get b b -> b }": "(handle@0 E (do@9 get unit@13) [return x: x@30] [get a k: (app@44 k@44 a@46)] [get b b: b@60])",
		"handle E let x = 1 in x { return x -> x := 1 }":                  "(handle@0 E (let@9 x 1@17 x@22) [return x: (op@38 := x@38 1@43)])",
	} {
		wantProgram(t, source, want)
	}
}

func TestDeclarations(t *testing.T) {
	for source, want := range map[string]string{
		"effect E { } 0":                                        "effect E\n0@13",
		"effect E{}0":                                           "effect E\n0@10",
		"effect E { get : unit -> int } 0":                      "effect E [get unit int]\n0@31",
		"effect E { f : int -> D; g : D -> bool } 0":            "effect E [f int D] [g D bool]\n0@41",
		"effect E { f:bool->bool;f:unit->unit } 0":              "effect E [f bool bool] [f unit unit]\n0@39",
		"data D { } 0":                                          "data D\n0@11",
		"data D { A } 0":                                        "data D [A]\n0@13",
		"data D { A; B } 0":                                     "data D [A] [B]\n0@16",
		"data D { A int D; B; C bool unit E A } 0":              "data D [A int D] [B] [C bool unit E A]\n0@39",
		"data D { } effect E { } data D { A } effect F { } (D)": "effect E\neffect F\ndata D\ndata D [A]\n(con@51 D)",
		"data D { A } (1)":                                      "data D [A]\n1@14",
		"effect E { } fun x -> x":                               "effect E\n(fun@13 x x@22)",
	} {
		wantProgram(t, source, want)
	}
	p, _, _ := parse.Parse([]byte("effect E { } data D { A } match x { A -> 1 }"))
	if len(p.Effects[0].Ops) != 0 || len(p.Datas[0].Cons[0].Fields) != 0 || len(p.Body.Arms[0].Vars) != 0 {
		t.Errorf("%v", p)
	}
}
