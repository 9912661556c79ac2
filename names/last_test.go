package names_test

import (
	"testing"

	"brocade/api"
	"brocade/names"
)

// TestLast has clauses, and what they resume with; of those that do not resume last there is nothing.
func TestLast(t *testing.T) {
	for clause, with := range map[string]string{
		"x k -> k (x + 1)": "x + 1", "x k -> k x": "x", "x k -> k ()": "()", "x k -> k (f x)": "f x", "x k -> k (k1 x)": "k1 x", "_ k -> k 1": "1", "_ k -> k _": "_", "k x -> x k": "k", "x k -> k (ask! x)": "ask! x",
		"x k -> k (fun k -> k)": "fun k -> k", "x k -> k (let k = x in k)": "let k = x in k", "x k -> k (rec k x = k x in k)": "rec k x = k x in k", "x k -> k (rec f k = f k in f)": "rec f k = f k in f",
		"x k -> k (match x { A k -> k })": "match x { A k -> k }", "x k -> k (handle E x { return k -> k; ask k l -> l k })": "handle E x { return k -> k; ask k l -> l k }", "x k -> k (fun x -> x)": "fun x -> x",
		"x k -> (k) x": "x", "x k -> k x + 1": "", "x k -> 1 + k x": "", "x k -> print (k x)": "", "x k -> let y = 1 in k x": "", "x k -> if x then k 1 else k 2": "", "x k -> (fun y -> k y) x": "", "x k -> fun y -> k y": "",
		"x k -> k": "", "x k -> x": "", "x k -> 1": "", "x k -> f x": "", "x k -> x k": "", "x k -> f k": "", "x k -> k x x": "", "x k -> k 1 2": "", "x k -> f x (k x)": "", "x k -> f (k x)": "", "x k -> (f k) x": "", "x k -> ask! x": "", "x k -> (fun k -> k) x": "",
		"x k -> k k": "", "x k -> k (k 1)": "", "x k -> k (x + k x)": "", "x k -> k (fun x -> k)": "", "x k -> k (fun y -> k y)": "", "x k -> k (let k = k in k)": "", "x k -> k (let y = 1 in k)": "", "x k -> k (rec f y = k in f)": "", "x k -> k (match k { A k -> k })": "",
		"x k -> k (match x { A k -> k; B y -> k })": "", "x k -> k (handle E x { return y -> y; ask x l -> k })": "", "x k -> k (Cons(1, k))": "", "x k -> k ((fun k -> k) k)": "",
		"k k -> k 1": "", "k k -> k x": "", "x _ -> _ x": "", "x _ -> _ 1": "", "_ _ -> _ 1": "", "x k -> handle E (k x) { return x -> x }": "", "x kk -> k x": "", "x k -> kk x": "",
	} {
		got, last := names.Last(read(t, "handle E 1 { return x -> x; ask "+clause+" }").Arms[1])
		want(t, clause, last, with != "")
		if with == "" {
			want(t, clause, got, api.Term{})
			continue
		}
		wanted := read(t, with)
		want(t, clause, unplaced(got), unplaced(wanted))
	}
}

// unplaced is a term of which nobody knows where it stood.
func unplaced(t api.Term) api.Term {
	t = copied(t)
	for _, at := range within(&t) {
		at.At = 0
	}
	return t
}

// TestLastNames has clauses with all numbers of names.
func TestLastNames(t *testing.T) {
	resumes := app(variable("k"), variable("x"))
	for _, x := range []struct {
		vars []string
		last bool
	}{
		{[]string{"x", "k"}, true}, {[]string{"y", "k"}, true}, {[]string{"_", "k"}, true}, {[]string{"", "k"}, true}, {[]string{"K", "k"}, true},
		{nil, false}, {[]string{}, false}, {[]string{"k"}, false}, {[]string{"x"}, false}, {[]string{"k", "k"}, false}, {[]string{"k", "x"}, false}, {[]string{"x", "_"}, false}, {[]string{"x", ""}, false},
		{[]string{"x", "k", "y"}, false}, {[]string{"y", "x", "k"}, false}, {[]string{"x", "k", "k"}, false}, {[]string{"x", "K"}, false}, {[]string{"x", "k "}, false},
	} {
		for _, name := range []string{"ask", "return", "", "k"} {
			_, last := names.Last(arm(name, resumes, x.vars...))
			want(t, []any{name, x.vars}, last, x.last)
		}
	}
	for _, name := range []string{"_", "", "K"} {
		_, last := names.Last(arm("ask", app(variable(name), variable("x")), "x", name))
		want(t, name, last, name != "_")
		_, last = names.Last(arm("ask", app(variable(name), variable(name)), "x", name))
		want(t, name, last, false)
	}
}

// TestLastWhole: what it resumes with is answered with all that stands at it.
func TestLastWhole(t *testing.T) {
	with := read(t, "match f 1 { A x -> x; B -> fun y -> y }")
	with.At, with.Type, with.Row = 99, api.Type{Kind: api.TypInt}, api.Row{Labels: []string{"E"}, Var: 4}
	with.Kids[0].Type = api.Type{Kind: api.TypVar, Var: 3}
	got, last := names.Last(arm("ask", app(variable("k"), with), "x", "k"))
	want(t, "last", last, true)
	want(t, "with", got, with)
}

// TestLastWrong has bodies that are no call, though much of them is as in one.
func TestLastWrong(t *testing.T) {
	k, x := variable("k"), variable("x")
	call := func(kids ...api.Term) api.Term { return api.Term{Kind: api.TermApp, Kids: kids} }
	bodies := []api.Term{{}, call(), call(k), call(x, k), {Kind: api.TermVar, Name: "k", Kids: []api.Term{k, x}}, {Kind: api.TermDo, Name: "k", Kids: []api.Term{x}}, {Kind: api.TermCon, Name: "k", Kids: []api.Term{x}}}
	for kind := -1; kind < 17; kind++ {
		if kind != api.TermApp {
			bodies = append(bodies, api.Term{Kind: kind, Name: "k", Kids: []api.Term{k, x}})
		}
		if kind != api.TermVar {
			bodies = append(bodies, call(api.Term{Kind: kind, Name: "k"}, x))
		}
	}
	for _, body := range bodies {
		got, last := names.Last(arm("ask", body, "x", "k"))
		want(t, body, last, false)
		want(t, body, got, api.Term{})
	}
}
