package scope_test

import (
	"testing"

	"brocade/api"
)

// TestDeclaredTerms has the terms that have to be as is declared.
func TestDeclaredTerms(t *testing.T) {
	for _, body := range []string{
		"Nil", "§Nil(1)", "Cons(1, Nil)", "§Cons", "§Cons(1)", "§Cons(1, 2, 3)", "One(1)", "§Zero", "§L", "§E", "§None", "Pair(One(1), Nil)", "Cons(1, Cons(2, §Nil(3)))", "C", "B(1, A(2))", "B(§A, A(1))", "B(A(1), §A)", "§B(A, A, A)",
		"ask!()", "tell!1", "go!ask!()", "§no!1", "§e!1", "ask!§no!1", "§asks!1", "§return1!1", "fun ask -> ask!ask", "fun x -> §x!x",
		"handle E 1 { return x -> 1 ; ask x k -> 2 ; tell x k -> 3 }", "handle F 1 { return x -> 1 }", "handle G 1 { return x -> 1 ; go x y -> 2 }",
		"§handle H 1 { return x -> 1 }", "§handle L 1 { return x -> 1 }", "§handle Ask 1 { return x -> 1 }", "§handle E 1 { return x -> 1 }", "§handle E 1 { return x -> 1 ; ask x k -> 2 }", "§handle E 1 { return x -> 1 ; tell x k -> 2 }",
		"§handle E 1 { return x -> 1 ; tell x k -> 2 ; ask x k -> 3 }", "§handle E 1 { return x -> 1 ; ask x k -> 2 ; ask x k -> 3 }", "§handle E 1 { return x -> 1 ; ask x k -> 2 ; go x k -> 3 }",
		"§handle E 1 { return x -> 1 ; ask x k -> 2 ; tell x k -> 3 ; tell x k -> 4 }", "§handle E 1 { return x -> 1 ; ask x k -> 2 ; tell x k -> 3 ; go x k -> 4 }", "§handle F 1 { return x -> 1 ; go x k -> 2 }",
		"§handle G 1 { return x -> 1 ; go x x -> 2 }", "§handle G 1 { return x -> 1 ; go _ _ -> 2 }", "handle G 1 { return _ -> 1 ; go _ k -> 2 }", "handle G 1 { return k -> 1 ; go k _ -> 2 }", "§handle E 1 { return x -> 1 ; ask x k -> 2 ; tell k k -> 3 }",
		"match 1 { Nil -> 1 ; Cons x y -> 2 }", "match 1 { Pair x y -> 1 }", "match 1 { A x -> 1 ; B x y -> 2 ; C -> 3 }", "match 1 { A _ -> 1 ; B _ _ -> 2 ; C -> 3 }", "match 1 { One x -> 1 }",
		"§match 1 { }", "§match 1 { Nil -> 1 }", "§match 1 { Cons x y -> 1 }", "§match 1 { Cons x y -> 1 ; Nil -> 2 }", "§match 1 { Nil -> 1 ; Nil -> 2 }", "§match 1 { Nil -> 1 ; Cons x y -> 2 ; Nil -> 3 }", "§match 1 { Nil -> 1 ; Cons x y -> 2 ; One x -> 3 }",
		"§match 1 { Nil -> 1 ; One x -> 2 }", "§match 1 { One x -> 1 ; Nil -> 2 }", "§match 1 { Zero -> 1 }", "§match 1 { L -> 1 }", "§match 1 { Nil -> 1 ; Zero -> 2 }", "§match 1 { None -> 1 }", "§match 1 { One x -> 1 ; Pair x y -> 2 }",
		"§match 1 { Nil x -> 1 ; Cons x y -> 2 }", "§match 1 { Nil -> 1 ; Cons -> 2 }", "§match 1 { Nil -> 1 ; Cons x -> 2 }", "§match 1 { Nil -> 1 ; Cons x y z -> 2 }", "§match 1 { Nil -> 1 ; Cons x x -> 2 }", "§match 1 { One -> 1 }", "match 1 { Nil -> 1 ; Cons _ _ -> 2 }",
		"match 1 { P x -> 1 ; Q x -> 2 ; R x -> 3 }", "§match 1 { P x -> 1 ; R x -> 2 ; Q x -> 3 }", "§match 1 { Q x -> 1 ; P x -> 2 ; R x -> 3 }", "§match 1 { P x -> 1 ; P x -> 2 ; R x -> 3 }", "§match 1 { P x -> 1 ; Q x -> 2 ; One x -> 3 }", "§match 1 { One x -> 1 ; Q x -> 2 ; R x -> 3 }", "§match 1 { P x -> 1 ; A x -> 2 ; R x -> 3 }",
		"handle Same 1 { return x -> 1 ; p x k -> 2 ; q x k -> 3 }", "§handle Same 1 { return x -> 1 ; q x k -> 2 ; p x k -> 3 }", "§handle Same 1 { return x -> 1 ; ask x k -> 2 ; tell x k -> 3 }", "§handle E 1 { return x -> 1 ; p x k -> 2 ; q x k -> 3 }",
		"§match 1 { B x y -> 1 ; A x -> 2 ; C -> 3 }", "§match 1 { A x -> 1 ; C -> 2 ; B x y -> 3 }", "§match 1 { A x -> 1 ; B x y -> 2 }", "§match 1 { B x y -> 1 ; C -> 2 }",
	} {
		wantMarked(t, body)
	}
}

// TestNoData: a match has at least one arm, though there is a data without constructors.
func TestNoData(t *testing.T) {
	p := read(t, "data None { } match 1 { }")
	wantCheck(t, "no arms", p, p.Body.At, api.ErrScope)
}

// TestReturnOperation: an operation may have the name return; which arm is which is told by the order.
func TestReturnOperation(t *testing.T) {
	unit := api.Type{Kind: api.TypUnit}
	p := api.Program{Effects: []api.Effect{{Name: "E", Ops: []api.OpSig{op("return", unit, unit)}}}}
	one := api.Term{Kind: api.TermInt, N: 1}
	p.Body = api.Term{Kind: api.TermHandle, At: 3, Name: "E", Kids: []api.Term{one}, Arms: []api.Arm{way(one, "return", "x"), way(one, "return", "x", "k")}}
	wantCheck(t, "return and return", p, 0, api.OK)
	p.Body.Arms[0], p.Body.Arms[1] = p.Body.Arms[1], p.Body.Arms[0]
	wantCheck(t, "the other way round", p, 3, api.ErrScope)
}

// TestReturn has first arms that are not a handler's.
func TestReturn(t *testing.T) {
	p := read(t, declarations+"handle F 1 { return x -> 1 }")
	for _, x := range []struct {
		name string
		vars []string
		fine bool
	}{
		{"return", []string{"x"}, true}, {"return", []string{"_"}, true}, {"return", nil, false}, {"return", []string{"x", "y"}, false}, {"Return", []string{"x"}, false}, {"", []string{"x"}, false}, {"F", []string{"x"}, false}, {"returns", []string{"x"}, false},
	} {
		p.Body.Arms[0].Name, p.Body.Arms[0].Vars = x.name, x.vars
		if x.fine {
			wantCheck(t, x, p, 0, api.OK)
		} else {
			wantCheck(t, x, p, p.Body.At, api.ErrScope)
		}
	}
	p.Body.Arms = nil
	wantCheck(t, "no arms", p, p.Body.At, api.ErrScope)
}

// TestClause has arms of an operation that are not a handler's.
func TestClause(t *testing.T) {
	p := read(t, declarations+"handle Same 1 { return x -> 1 ; p x k -> 2 ; q x k -> 3 }")
	for i, name := range []string{"p", "q"} {
		place := 1 + i
		for _, x := range []struct {
			name string
			vars []string
			fine bool
		}{
			{name, []string{"x", "k"}, true}, {name, []string{"_", "k"}, true}, {name, []string{"k", "_"}, true}, {name, []string{"", "k"}, true},
			{name, nil, false}, {name, []string{"x"}, false}, {name, []string{"x", "k", "y"}, false}, {name, []string{"x", "x"}, false}, {name, []string{"_", "_"}, false}, {name, []string{"", ""}, false},
			{"", []string{"x", "k"}, false}, {"ask", []string{"x", "k"}, false}, {"return", []string{"x", "k"}, false}, {name + name, []string{"x", "k"}, false},
		} {
			kept := p.Body.Arms[place]
			p.Body.Arms[place].Name, p.Body.Arms[place].Vars = x.name, x.vars
			if x.fine {
				wantCheck(t, x, p, 0, api.OK)
			} else {
				wantCheck(t, x, p, p.Body.At, api.ErrScope)
			}
			p.Body.Arms[place] = kept
		}
	}
}

// TestParts gives terms of each kind all sorts of names, and numbers of kids and arms.
func TestParts(t *testing.T) {
	p := read(t, declarations+"1")
	one := api.Term{Kind: api.TermInt, At: 77, N: 1}
	arms := [][]api.Arm{
		nil, {}, {way(one, "Nil"), way(one, "Cons", "x", "y")}, {way(one, "Nil")}, {way(one, "One", "x")}, {way(one, "return", "x")}, {way(one, "return", "x"), way(one, "go", "x", "k")},
		{way(one, "go", "x", "k")}, {way(one, "return", "x"), way(one, "ask", "x", "k"), way(one, "tell", "x", "k")}, {{}},
	}
	names := []string{"", "x", "_", "+", "-", "*", "/", "<", "=", ":=", "print", "ref", "!", "read", ">", "Nil", "Cons", "Pair", "B", "One", "L", "E", "F", "G", "ask", "tell", "go", "return", "console"}
	fine := 0
	for kind := -1; kind <= 20; kind++ {
		for _, name := range names {
			for kids := range 5 {
				for _, arms := range arms {
					term := api.Term{Kind: kind, At: 5, Name: name, Arms: arms}
					for range kids {
						term.Kids = append(term.Kids, one)
					}
					for _, around := range []api.Term{term, {Kind: api.TermFun, At: 1, Name: "x", Kids: []api.Term{term}}} {
						p.Body = around
						wantSlow(t, p)
						if _, err := slowCheck(p); err == api.OK {
							fine++
						}
					}
				}
			}
		}
	}
	if fine != 1128 {
		t.Errorf("%d terms are fine", fine)
	}
}

// TestDoesNotMatter: At, N, Param, and what was inferred, may be anything.
func TestDoesNotMatter(t *testing.T) {
	p := read(t, declarations+"fun x -> rec f y = Cons(x, y) in match f { Nil -> true ; Cons h t -> h + 1 }")
	var over func(t *api.Term)
	over = func(t *api.Term) {
		odd := api.Type{Kind: 99, Name: "no", Var: -3, Args: make([]api.Type, 2), Row: api.Row{Labels: []string{"z", ""}, Var: -1}}
		t.At, t.Type, t.Own, t.Row = -t.At, odd, odd, odd.Row
		if t.Kind != api.TermRec {
			t.Param = "other"
		}
		t.N = -7
		for i := range t.Kids {
			over(&t.Kids[i])
		}
		for i := range t.Arms {
			over(&t.Arms[i].Body)
		}
	}
	over(&p.Body)
	wantCheck(t, "odd", p, 0, api.OK)
	p.Body.Name = "other"
	wantCheck(t, "odd", p, p.Body.Kids[0].Kids[0].Kids[0].At, api.ErrScope)
}

// TestNameless: a name may be empty where it is bound.
func TestNameless(t *testing.T) {
	empty := api.Term{Kind: api.TermVar, At: 2}
	wantCheck(t, "free", api.Program{Body: empty}, 2, api.ErrScope)
	wantCheck(t, "bound", api.Program{Body: api.Term{Kind: api.TermFun, At: 1, Kids: []api.Term{empty}}}, 0, api.OK)
}
