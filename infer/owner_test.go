package infer_test

import (
	"reflect"
	"slices"
	"testing"

	"brocade/api"
	"brocade/infer"
)

// roomy is a list with room behind its items.
func roomy[A any](l []A) []A {
	if l == nil {
		return nil
	}
	return append(make([]A, 0, len(l)+2), l...)
}

// ownType is a type with lists of its own, with room behind them.
func ownType(t api.Type) api.Type {
	t.Row.Labels, t.Args = roomy(t.Row.Labels), roomy(t.Args)
	for i := range t.Args {
		t.Args[i] = ownType(t.Args[i])
	}
	return t
}

// ownProgram is a program with lists of its own, with room behind them.
func ownProgram(p api.Program) api.Program {
	p.Effects, p.Datas, p.Body = roomy(p.Effects), roomy(p.Datas), own(p.Body)
	for i := range p.Effects {
		p.Effects[i].Ops = roomy(p.Effects[i].Ops)
	}
	for i := range p.Datas {
		p.Datas[i].Cons = roomy(p.Datas[i].Cons)
		for c := range p.Datas[i].Cons {
			p.Datas[i].Cons[c].Fields = roomy(p.Datas[i].Cons[c].Fields)
		}
	}
	for _, t := range slices.Backward(within(&p.Body)) {
		t.Type, t.Own, t.Row.Labels = ownType(t.Type), ownType(t.Own), roomy(t.Row.Labels)
		t.Kids, t.Arms = roomy(t.Kids), roomy(t.Arms)
		for i := range t.Arms {
			t.Arms[i].Vars = roomy(t.Arms[i].Vars)
		}
	}
	return p
}

func over[A any](l []A, with A) {
	full := l[:cap(l)]
	for i := range full {
		full[i] = with
	}
}

func overType(t api.Type) {
	for _, arg := range t.Args {
		overType(arg)
	}
	over(t.Row.Labels, "over")
	over(t.Args, api.Type{Kind: 77, Name: "over"})
}

// overProgram writes over all that a program has, and what lies behind its lists.
func overProgram(p api.Program) {
	for _, t := range slices.Backward(within(&p.Body)) {
		overType(t.Type)
		overType(t.Own)
		over(t.Row.Labels, "over")
		for _, arm := range t.Arms {
			over(arm.Vars, "over")
		}
		over(t.Kids, api.Term{Kind: 77})
		over(t.Arms, api.Arm{Name: "over"})
	}
	for _, e := range p.Effects {
		over(e.Ops, api.OpSig{Name: "over"})
	}
	over(p.Effects, api.Effect{Name: "over"})
	for _, d := range p.Datas {
		for _, c := range d.Cons {
			over(c.Fields, api.Type{Kind: 77})
		}
		over(d.Cons, api.ConSig{Name: "over"})
	}
	over(p.Datas, api.Data{Name: "over"})
}

// TestOwners: what is handed in stays, and may be written over, and so may be what is answered (R1); the same calls
// have the same answers (R4).
func TestOwners(t *testing.T) {
	m := maker{dice: 7, Program: read(t, declarations+"1")}
	for range 300 {
		kept := m.program(1 + m.under(4))
		p := ownProgram(kept)
		out := infers(t, source(p), p)
		want := ownProgram(out)
		overProgram(out)
		if !reflect.DeepEqual(p, kept) {
			t.Fatalf("%s was changed: %q", source(kept), all(p.Body))
		}
		out = infers(t, source(p), p)
		if !reflect.DeepEqual(out, want) {
			t.Fatalf("%s: %q, not %q", source(p), all(out.Body), all(want.Body))
		}
		overProgram(p)
		if !reflect.DeepEqual(out, want) {
			t.Fatalf("%s hangs on what was handed in: %q", source(kept), all(out.Body))
		}
	}
}

// TestRest: all but Types, Rows and Owns is as it was handed in.
func TestRest(t *testing.T) {
	m := maker{dice: 8, Program: read(t, declarations+"1")}
	for range 300 {
		p := erased(m.program(1 + m.under(4)))
		for _, at := range within(&p.Body) {
			at.N, at.At = m.under(100)-50, m.under(100)
			if at.Kind != api.TermRec {
				at.Param = m.name()
			}
			if len(at.Kids) == 0 && m.under(2) == 0 {
				at.Kids = []api.Term{}
			}
			if len(at.Arms) == 0 && m.under(2) == 0 {
				at.Arms = []api.Arm{}
			}
		}
		if got := erased(infers(t, source(p), p)); !reflect.DeepEqual(got, p) {
			t.Fatalf("%+v, not %+v", got, p)
		}
	}
	for _, p := range []api.Program{
		{Body: term(api.TermUnit, "")},
		{Effects: []api.Effect{}, Datas: []api.Data{}, Body: term(api.TermUnit, "")},
		{Effects: []api.Effect{{Name: "E", Ops: []api.OpSig{}}}, Datas: []api.Data{{Name: "D", Cons: []api.ConSig{}}, {Name: "C", Cons: []api.ConSig{{Name: "C", Fields: []api.Type{}}}}}, Body: term(api.TermUnit, "")},
	} {
		if got := erased(infers(t, "none", p)); !reflect.DeepEqual(got, p) {
			t.Errorf("%+v, not %+v", got, p)
		}
	}
}

// TestErrTypeRest: beside ErrType the program is as it was handed in; beside another error there is none.
func TestErrTypeRest(t *testing.T) {
	m := maker{dice: 9, Program: read(t, declarations+"1")}
	for _, wrong := range wrongs() {
		p := m.program(3)
		p.Body = term(api.TermLet, "u", p.Body, read(t, declarations+wrong).Body)
		p.Body.Type = m.typ(3)
		kept := ownProgram(p)
		out, _, err := infer.Infer(p)
		if err != api.ErrType || !reflect.DeepEqual(out, kept) || !reflect.DeepEqual(p, kept) {
			t.Fatalf("%s: %v", source(kept), err)
		}
		over(out.Effects, api.Effect{})
		over(out.Datas[0].Cons, api.ConSig{})
		if !reflect.DeepEqual(p, kept) {
			t.Fatalf("%s was changed", source(kept))
		}
	}
	p := read(t, declarations+"1")
	p.Body = made(sized(1001))
	if out, _, err := infer.Infer(p); err != api.ErrLimit || !reflect.DeepEqual(out, api.Program{}) {
		t.Errorf("%v: %+v", err, out)
	}
}

// TestListsApart: no two lists of one answer are one.
func TestListsApart(t *testing.T) {
	p := read(t, declarations+"let id = fun x -> e! x in let g = id in let _ = g in fun h -> handle E h id { return x -> rec f u = f u in f ; e x k -> k 1; tell x k -> k () }")
	out := infers(t, "lists", p)
	args, labels, count := map[*api.Type]int{}, map[*string]int{}, 0
	var look func(t api.Type)
	row := func(r api.Row) {
		if len(r.Labels) > 0 {
			labels[&r.Labels[0]]++
		}
	}
	look = func(t api.Type) {
		row(t.Row)
		if len(t.Args) > 0 {
			args[&t.Args[0]]++
			count++
		}
		for _, arg := range t.Args {
			look(arg)
		}
	}
	for _, at := range within(&out.Body) {
		look(at.Type)
		look(at.Own)
		row(at.Row)
	}
	for first, n := range args {
		if n > 1 {
			t.Errorf("the list of %+v stands %d times", *first, n)
		}
	}
	for first, n := range labels {
		if n > 1 {
			t.Errorf("the list of %s stands %d times", *first, n)
		}
	}
	if count < 20 {
		t.Errorf("only %d lists", count)
	}
}
