package infer_test

import (
	"strconv"
	"strings"
	"testing"

	"brocade/api"
	"brocade/infer"
	"brocade/types"
)

// TestDeep has terms within terms, so often that nobody writes it, at each place where a type may stay the same.
func TestDeep(t *testing.T) {
	for _, around := range []string{
		"let y = # in x", "let y = x in #", "let y = fun z -> z in #", "let y = Cons(#, Nil) in x", "rec f y = # in x", "rec f y = f y in #", "(fun y -> y) #", "(fun y -> x) #", "(fun x -> #) x",
		"if x < # then 1 else 2", "if true then # else x", "if true then x else #", "# + 1", "1 - #", "! ref #", "let _ = ref 1 := # in x", "let _ = print # in x", "let _ = One(x = #) in x",
		"match Cons(#, Nil) { Nil -> x; Cons h t -> h }", "match Nil { Nil -> #; Cons h t -> h }", "match Nil { Nil -> x; Cons x t -> # }",
		"handle None # { return y -> y }", "handle F 1 { return x -> #; f x k -> x }", "handle F 1 { return y -> x; f x k -> # }", "handle F 1 { return y -> x; f x k -> let _ = # in k true }", "(let y = e! () in y) + #",
	} {
		const mark = 424242
		one := read(t, declarations+strings.Replace(around, "#", "424242", 1))
		handles := strings.Contains(around, "handle")
		for _, deep := range []int{1, 2, 100, 1500} {
			if handles && deep > 300 {
				deep = 300 // a row has a label more at each level
			}
			body := term(api.TermVar, "x")
			for range deep {
				outer := own(one.Body)
				for _, at := range within(&outer) {
					if at.N == mark {
						*at = body
					}
				}
				body = outer
			}
			p := one
			p.Body = term(api.TermFun, "x", term(api.TermLet, "_", term(api.TermOp, "+", term(api.TermVar, "x"), term(api.TermInt, "")), body))
			out, at, err := infer.Infer(p)
			if err != api.OK {
				t.Fatalf("%s, %d deep: %v at %d", around, deep, err, at)
			}
			if deep <= 100 {
				wantRight(t, around, out)
			}
			if text := types.Text(out.Body.Type); !strings.HasPrefix(text, "int -> <") || !strings.HasSuffix(text, "|1> int") {
				t.Errorf("%s, %d deep: %s", around, deep, text)
			}
		}
	}
}

// twice is the same term two times, so many times over.
func twice(inmost api.Term, deep int) api.Term {
	for range deep {
		inmost = term(api.TermOp, "+", inmost, inmost)
	}
	return inmost
}

// TestShared has terms with lists together: each place has a type of its own; and such as are more terms than anyone could count.
func TestShared(t *testing.T) {
	out := infers(t, "shared", api.Program{Body: twice(term(api.TermInt, ""), 10)})
	if len(within(&out.Body)) != 2047 || &out.Body.Kids[0].Kids[0] == &out.Body.Kids[1].Kids[0] {
		t.Errorf("%d terms", len(within(&out.Body)))
	}
	x := term(api.TermFun, "y", term(api.TermVar, "x"))
	under := func(is api.Term) api.Term { return term(api.TermLet, "x", is, x) }
	body := term(api.TermLet, "_", under(term(api.TermInt, "")), under(term(api.TermBool, "")))
	if got := all(infers(t, "unlike", api.Program{Body: body}).Body); got[3] != "'2 -> <|2> int in <console>" || got[4] != "int in <|2>" || got[7] != "'1 -> <|1> bool in <console>" || got[8] != "bool in <|1>" {
		t.Errorf("%q", got)
	}
	for _, deep := range []int{40, 1000} {
		wantOver(t, api.Program{Body: twice(term(api.TermInt, ""), deep)})
	}
}

// wantOver holds that a body is more terms, or deeper, than anything is promised of.
func wantOver(t *testing.T, p api.Program) {
	t.Helper()
	p.Body.At = 7
	if out, at, err := infer.Infer(p); err != api.ErrLimit || at != 7 || out.Body.Kind != 0 {
		t.Errorf("kind %d: %v at %d", p.Body.Kind, err, at)
	}
}

// TestWithinItself: of terms that stand within themselves all calls end.
func TestWithinItself(t *testing.T) {
	for _, source := range []string{
		"fun x -> 9", "9 1", "1 9", "let x = 9 in 1", "let x = 1 in 9", "rec f x = 9 in 1", "rec f x = 1 in 9", "if 9 then 9 else 9", "9 + 9", "ref 9", "Cons(9, 9)",
		"match 9 { Nil -> 1; Cons x y -> 2 }", "match Nil { Nil -> 9; Cons x y -> 9 }", "f! 9", "handle F 9 { return x -> 1; f x k -> 2 }", "handle F 1 { return x -> 9; f x k -> 9 }",
	} {
		p := read(t, declarations+source)
		for _, at := range within(&p.Body) {
			if at.N == 9 {
				*at = p.Body
			}
		}
		wantOver(t, p)
		p.Body = term(api.TermApp, "", p.Body, p.Body)
		wantOver(t, p)
	}
	deep := term(api.TermInt, "")
	for range 200000 {
		deep = term(api.TermOp, "print", deep)
	}
	wantOver(t, api.Program{Body: deep})
}

// TestWide has very many kids, arms and names.
func TestWide(t *testing.T) {
	const wide = 20000
	con := api.ConSig{Name: "C"}
	var names []string
	made, used := term(api.TermCon, "C"), term(api.TermCon, "C")
	for n := range wide {
		name := "x" + strconv.Itoa(n)
		con.Fields = append(con.Fields, kind(api.TypInt))
		names = append(names, name)
		made.Kids = append(made.Kids, term(api.TermApp, "", term(api.TermVar, "id"), term(api.TermInt, "")))
		used.Kids = append(used.Kids, term(api.TermVar, name))
	}
	p := api.Program{Datas: []api.Data{{Name: "D", Cons: []api.ConSig{con}}}}
	match := term(api.TermMatch, "", made)
	match.Arms = []api.Arm{{Name: "C", Vars: names, Body: used}}
	p.Body = term(api.TermLet, "id", term(api.TermFun, "x", term(api.TermVar, "x")), match)
	out, at, err := infer.Infer(p)
	if err != api.OK || told(out.Body) != "D in <console>" {
		t.Fatalf("%v at %d: %s", err, at, told(out.Body))
	}
	used.Kids[wide-1] = term(api.TermBool, "")
	used.Kids[wide-1].At = 9
	if _, at, err := infer.Infer(p); err != api.ErrType || at != 9 {
		t.Errorf("%v at %d", err, at)
	}
}
