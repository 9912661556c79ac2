package check_test

import (
	"strconv"
	"strings"
	"testing"

	"brocade/api"
	"brocade/check"
	"brocade/infer"
)

// mark stands in a source for the term within.
const mark = 424242

// nested is a program in which a source stands within itself so many times, at the mark, below a name x of an int.
func nested(t *testing.T, around string, deep int) api.Program {
	t.Helper()
	p := read(t, declarations+strings.ReplaceAll(around, "#", strconv.Itoa(mark)))
	body := api.Term{Kind: api.TermVar, Name: "x"}
	for range deep {
		outer := own(p.Body)
		for _, at := range within(&outer) {
			if at.N == mark {
				*at = body
			}
		}
		body = outer
	}
	p.Body = api.Term{Kind: api.TermApp, Kids: []api.Term{{Kind: api.TermFun, Name: "x", Kids: []api.Term{body}}, {Kind: api.TermInt}}}
	p, at, err := infer.Infer(p)
	if err != api.OK {
		t.Fatalf("%s, %d deep: %v at %d", around, deep, err, at)
	}
	number(&p)
	return p
}

// TestDeep has terms within terms, so often that nobody writes it, in each place; and the inmost one is wrong.
func TestDeep(t *testing.T) {
	for _, around := range []string{
		"let y = # in x", "let y = x in #", "let y = fun z -> z in #", "let y = Cons(#, Nil) in x", "rec f y = # in x", "rec f y = f y in #", "(fun y -> y) #", "(fun y -> #) 1", "(fun x -> #) x",
		"if x < # then 1 else 2", "if true then # else x", "if true then x else #", "# + 1", "1 - #", "! ref #", "let _ = ref 1 := # in x", "let _ = print # in x", "let _ = One(x = #) in x",
		"match Cons(#, Nil) { Nil -> x; Cons h t -> h }", "match Nil { Nil -> #; Cons h t -> h }", "match Nil { Nil -> x; Cons x t -> # }",
		"handle None # { return y -> y }", "handle F 1 { return x -> #; f x k -> x }", "handle F 1 { return y -> x; f x k -> # }",
	} {
		for _, deep := range []int{1, 2, 100, 1500} {
			if strings.Contains(around, "handle None") && deep > 200 {
				deep = 200 // a row has a label more at each level
			}
			p := nested(t, around, deep)
			wantCheck(t, around, p, 0, api.OK)
			places := within(&p.Body)
			inmost := places[0]
			for _, at := range places {
				if at.Kind == api.TermVar && at.Name == "x" {
					inmost = at
				}
			}
			inmost.Type = kind(api.TypUnit)
			if deep <= 100 {
				wantSlow(t, p)
			}
			if at, err := check.Check(p); err != api.ErrType || at <= 100 || at > inmost.At {
				t.Errorf("%s, %d deep: %v at %d, not %d", around, deep, err, at, inmost.At)
			}
		}
	}
}

// TestManyNames has thousands of names told one within the other, all with variables, and generalizes below them.
func TestManyNames(t *testing.T) {
	const many = 2000
	body := api.Term{Kind: api.TermUnit}
	for n := range many {
		name := "x" + strconv.Itoa(many-1-n)
		g := api.Term{Kind: api.TermFun, Name: "z", Kids: []api.Term{{Kind: api.TermVar, Name: "z"}}}
		use := api.Term{Kind: api.TermApp, Kids: []api.Term{{Kind: api.TermVar, Name: "g"}, body}}
		let := api.Term{Kind: api.TermLet, Name: "g", Kids: []api.Term{g, use}}
		call := api.Term{Kind: api.TermApp, Kids: []api.Term{{Kind: api.TermFun, Name: name, Kids: []api.Term{let}}, {Kind: api.TermFun, Name: "y", Kids: []api.Term{{Kind: api.TermVar, Name: "y"}}}}}
		body = call
	}
	p, at, err := infer.Infer(api.Program{Body: body})
	if err != api.OK {
		t.Fatalf("%v at %d", err, at)
	}
	number(&p)
	wantCheck(t, "names", p, 0, api.OK)
	places := within(&p.Body) // application, function, let, function, z, application, g ..
	variable := places[1].Type.Args[0].Args[0].Var
	last := 0
	for i, at := range places {
		if at.Kind == api.TermLet {
			last = i
		}
	}
	// the first function's variable stands in the last let's function, which may not be generalized over it
	text := "'" + strconv.Itoa(variable)
	put(places[last+1], text+" -> <|1> "+text)
	put(places[last+2], text+" in <|1>")
	wantCheck(t, "not generalized", p, 100+last+4, api.ErrType)
}

// TestWide has very many kids, arms and names.
func TestWide(t *testing.T) {
	const wide = 20000
	con := api.ConSig{Name: "C"}
	many := api.Data{Name: "Many"}
	var names []string
	made, used := api.Term{Kind: api.TermCon, Name: "C"}, api.Term{Kind: api.TermCon, Name: "C"}
	choice := api.Term{Kind: api.TermMatch, Kids: []api.Term{{Kind: api.TermCon, Name: "M7"}}}
	for n := range wide {
		name := "x" + strconv.Itoa(n)
		con.Fields = append(con.Fields, kind(api.TypInt))
		names = append(names, name)
		made.Kids = append(made.Kids, api.Term{Kind: api.TermApp, Kids: []api.Term{{Kind: api.TermVar, Name: "id"}, {Kind: api.TermInt}}})
		used.Kids = append(used.Kids, api.Term{Kind: api.TermVar, Name: name})
		many.Cons = append(many.Cons, api.ConSig{Name: "M" + strconv.Itoa(n)})
		choice.Arms = append(choice.Arms, api.Arm{Name: "M" + strconv.Itoa(n), Body: api.Term{Kind: api.TermInt}})
	}
	made.Kids[wide-1] = choice
	p := api.Program{Datas: []api.Data{{Name: "D", Cons: []api.ConSig{con}}, many}}
	match := api.Term{Kind: api.TermMatch, Kids: []api.Term{made}, Arms: []api.Arm{{Name: "C", Vars: names, Body: used}}}
	id := api.Term{Kind: api.TermFun, Name: "x", Kids: []api.Term{{Kind: api.TermVar, Name: "x"}}}
	p.Body = api.Term{Kind: api.TermLet, Name: "id", Kids: []api.Term{id, match}}
	p, at, err := infer.Infer(p)
	if err != api.OK {
		t.Fatalf("%v at %d", err, at)
	}
	number(&p)
	wantCheck(t, "wide", p, 0, api.OK)
	wantErased(t, "wide", p)
	match = p.Body.Kids[1]
	bodies := match.Kids[0].Kids[wide-1].Arms
	bodies[wide-1].Body.Row = api.Row{}
	wantCheck(t, "the last arm", p, match.Kids[0].Kids[wide-1].At, api.ErrType)
	match.Kids[0].Kids[wide-2].Kids[1].Type = kind(api.TypBool)
	wantCheck(t, "a kid", p, match.Kids[0].Kids[wide-2].At, api.ErrType)
}

// TestShared has terms with lists together.
func TestShared(t *testing.T) {
	p := typed(t, "1 + 1")
	for range 10 {
		p.Body.Kids = []api.Term{p.Body, p.Body}
	}
	wantCheck(t, "shared", p, 0, api.OK)
	p.Body.Kids[0].Type = kind(api.TypBool)
	wantCheck(t, "shared", p, 100, api.ErrType)

	// fun z -> x is right below x of one type, and wrong below x of another one
	p = typed(t, "let _ = (let x = 1 in fun z -> x) in (let x = 2 in fun z -> x)")
	first, other := &p.Body.Kids[0], &p.Body.Kids[1]
	first.Kids[1].Type, first.Kids[1].Kids = other.Kids[1].Type, other.Kids[1].Kids
	first.Type = other.Type
	wantCheck(t, "twice", p, 0, api.OK)
	other.Kids[0] = api.Term{Kind: api.TermBool, At: 9, Type: kind(api.TypBool), Row: other.Row}
	wantCheck(t, "below another x", p, other.Kids[1].Kids[0].At, api.ErrType)
}

// wantOver holds that a body is more terms, or deeper, than anything is promised of.
func wantOver(t *testing.T, what any, body api.Term) {
	t.Helper()
	body.At = 7
	wantCheck(t, what, api.Program{Body: body}, 7, api.ErrLimit)
}

// TestOver: of terms that are within themselves, or more than anyone could count, the call ends.
func TestOver(t *testing.T) {
	one := typed(t, "1 + 1").Body
	for _, deep := range []int{40, 1000} {
		body := one
		for range deep {
			body.Kids = []api.Term{body, body}
		}
		wantOver(t, deep, body)
	}
	for _, source := range []string{
		"fun x -> 424242", "(fun x -> x) 424242", "let x = 424242 in 1", "let x = 1 in 424242", "rec f x = 424242 in 1", "rec f x = 1 in 424242", "if true then 424242 else 424242", "424242 + 424242", "ref 424242",
		"match Nil { Nil -> 424242; Cons x y -> 424242 }", "handle None 424242 { return x -> 1 }", "handle None 1 { return x -> 424242 }",
	} {
		p := typed(t, source)
		for _, at := range within(&p.Body) {
			if at.N == mark {
				*at = p.Body
			}
		}
		p.Body.At = 7
		wantCheck(t, source, p, 7, api.ErrLimit)
	}
	body := one
	for range 100000 {
		body.Kids = []api.Term{one, body}
	}
	wantOver(t, "deep", body)
}
