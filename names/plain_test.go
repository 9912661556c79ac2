package names_test

import (
	"testing"

	"brocade/api"
	"brocade/infer"
	"brocade/names"
	"brocade/parse"
)

// TestValuePlain has each kind of term, with parts that are values, that are plain, and that are neither.
func TestValuePlain(t *testing.T) {
	const value, plain, neither = 2, 1, 0
	for source, is := range map[string]int{
		"x": value, "_": value, "7": value, "true": value, "false": value, "()": value, "fun x -> x": value, "fun x -> f x": value, "fun x -> ask! x": value, "fun x -> handle E 1 { return x -> x }": value,
		"Nil": value, "A()": value, "Cons(1, Nil)": value, "Cons(x, Cons(fun x -> f x, Nil))": value,
		"Cons(1 + 2, Nil)": plain, "Cons(1, Cons(read (), Nil))": plain, "Cons(1, Cons(f x, Nil))": neither, "Cons(f x, 1)": neither, "Cons(1, f x)": neither, "A(B(C(ask! 1)))": neither, "A(B(C(let x = 1 in x)))": plain,
		"f x": neither, "f x y": neither, "(fun x -> x) 1": neither, "f (fun x -> x)": neither,
		"let x = 1 in x": plain, "let x = f 1 in x": neither, "let x = 1 in f x": neither, "let x = fun y -> f y in x": plain, "let x = 1 in let y = 2 in ask! x": neither,
		"rec f x = f x in f": plain, "rec f x = x in f 1": neither, "rec f x = ask! x in 1": plain, "rec f x = x in rec g x = f x in g": plain, "rec f x = x in rec g x = x in g 1": neither, "rec f x = (handle E 1 { return x -> x }) in 1 + 1": plain,
		"if x then y else z": plain, "if f x then y else z": neither, "if x then f y else z": neither, "if x then y else f z": neither, "if x then fun y -> f y else z": plain,
		"read ()": plain, "1 + 2": plain, "print x": plain, "ref x": plain, "! x": plain, "x := y": plain, "1 / 0": plain, "f x + 1": neither, "1 + f x": neither, "1 < f x": neither, "print (f x)": neither, "ref (fun x -> f x)": plain, "! (ask! ())": neither, "x := 1 + (2 + f 3)": neither,
		"match x { }": plain, "match x { A -> 1; B y -> y }": plain, "match f x { A -> 1 }": neither, "match x { A -> f 1; B y -> y }": neither, "match x { A -> 1; B y -> f y }": neither, "match x { A -> fun x -> f x; B y -> y }": plain, "match x { A -> 1; B y -> match y { A -> 1; B z -> ask! z } }": neither,
		"ask! ()": neither, "ask! (fun x -> x)": neither, "print (ask! ())": neither, "ask! 1 + 1": neither,
		"handle E 1 { return x -> x }": neither, "handle E 1 { return x -> x; ask x k -> k x }": neither, "let x = (handle E 1 { return x -> x }) in x": neither, "fun y -> handle E 1 { return x -> x }": value,
	} {
		term := read(t, source)
		want(t, "Value of "+source, names.Value(term), is == value)
		want(t, "Plain of "+source, names.Plain(term), is != neither)
	}
}

// TestQuietRows has plain terms, and others, in all sorts of rows.
func TestQuietRows(t *testing.T) {
	console, effect := api.Console, "E"
	rows := []struct {
		row  api.Row
		calm bool
	}{
		{api.Row{}, true}, {api.Row{Labels: []string{}}, true}, {api.Row{Labels: []string{console}}, true}, {api.Row{Labels: []string{console, console}}, true},
		{api.Row{Var: 1}, false}, {api.Row{Labels: []string{console}, Var: 7}, false}, {api.Row{Labels: []string{effect}}, false}, {api.Row{Labels: []string{effect, console}}, false},
		{api.Row{Labels: []string{console, effect}}, false}, {api.Row{Labels: []string{console + "s"}}, false}, {api.Row{Labels: []string{effect}, Var: 2}, false},
	}
	terms := map[string]bool{
		"x": true, "1 + 2": true, "let x = 1 in x": true, "fun x -> f x": true, "rec f x = f x in f": true, "Cons(1, Nil)": true,
		"f x": false, "ask! ()": false, "handle E 1 { return x -> x }": false, "let x = f 1 in x": false, "1 + f 1": false,
	}
	for source, plain := range terms {
		term := read(t, source)
		want(t, source+" without a row", names.Quiet(term), true)
		for _, r := range rows {
			term.Row = r.row
			want(t, []any{source, r.row}, names.Quiet(term), plain || r.calm)
			want(t, []any{source, r.row, "plain"}, names.Plain(term), plain)
		}
	}
}

// TestQuietOwn: it is the term's own Row that matters, not that of what is within it, nor of its type.
func TestQuietOwn(t *testing.T) {
	loud := api.Row{Labels: []string{"E"}, Var: 3}
	call := app(variable("f"), variable("x"))
	call.Row = loud
	calm := plus(call, call)
	want(t, "a loud one within", names.Quiet(calm), true)
	calm.Type = api.Type{Kind: api.TypFun, Row: loud}
	calm.Own = calm.Type
	want(t, "a loud type", names.Quiet(calm), true)
	calm.Row = loud
	want(t, "loud", names.Quiet(calm), false)
	calm.Kids[0].Row, calm.Kids[1].Row = api.Row{}, api.Row{}
	want(t, "a calm one within", names.Quiet(calm), false)
}

// TestQuietInferred has a call in rows that infer finds for it: at the body, in functions, and below handlers.
func TestQuietInferred(t *testing.T) {
	for source, quiet := range map[string]bool{
		"here 1":                         true,
		"print (here 1)":                 true,
		"fun y -> here 1":                false, // whoever calls it may do so in any row
		"(fun y -> here 1) ()":           true,
		"fun y -> print (ask! (here y))": false,
		"rec f y = here (f y) in f 1":    false,
		"handle E (let y = ask! () in here y) { return x -> x; ask x k -> k 1; tell x k -> k () }": false,
		"handle E (here 1) { return x -> x; ask x k -> k 1; tell x k -> k () }":                    false,
		"handle E (ask! ()) { return x -> here x; ask x k -> k 1; tell x k -> k () }":              true,
		"handle E (ask! ()) { return x -> x; ask x k -> here (k 1); tell x k -> k () }":            true,
		"fun y -> handle E (ask! ()) { return x -> here x; ask x k -> k 1; tell x k -> k () }":     false,
	} {
		term := hereIn(t, "let here = fun x -> x in "+source)
		want(t, source, names.Quiet(term), quiet)
		want(t, source, names.Plain(term), false)
	}
}

// hereIn is the call of here that stands in a program, as it is inferred.
func hereIn(t *testing.T, source string) api.Term {
	t.Helper()
	p, _, err := parse.Parse([]byte(declarations + source))
	if err != api.OK {
		t.Fatal(source, err)
	}
	if p, _, err = infer.Infer(p); err != api.OK {
		t.Fatal(source, err)
	}
	var call api.Term
	infer.Walk(p.Body, func(at api.Term) bool {
		if at.Kind == api.TermApp && at.Kids[0].Name == "here" {
			call = at
		}
		return true
	})
	return call
}
