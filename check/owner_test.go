package check_test

import (
	"reflect"
	"slices"
	"testing"

	"brocade/api"
	"brocade/check"
)

// roomy is a list with room behind its items.
func roomy[A any](l []A) []A {
	if l == nil {
		return nil
	}
	return append(make([]A, 0, len(l)+2), l...)
}

// ownType is a type with lists of its own, with room behind them.
func ownType(t api.Type) api.Type {
	t.Row.Labels, t.Args = roomy(t.Row.Labels), roomy(t.Args)
	for i := range t.Args {
		t.Args[i] = ownType(t.Args[i])
	}
	return t
}

// ownProgram is a program with lists of its own, with room behind them.
func ownProgram(p api.Program) api.Program {
	p.Effects, p.Datas, p.Body = roomy(p.Effects), roomy(p.Datas), own(p.Body)
	for i := range p.Effects {
		p.Effects[i].Ops = roomy(p.Effects[i].Ops)
	}
	for i := range p.Datas {
		p.Datas[i].Cons = roomy(p.Datas[i].Cons)
		for c := range p.Datas[i].Cons {
			p.Datas[i].Cons[c].Fields = roomy(p.Datas[i].Cons[c].Fields)
		}
	}
	for _, t := range slices.Backward(within(&p.Body)) {
		t.Type, t.Own, t.Row.Labels = ownType(t.Type), ownType(t.Own), roomy(t.Row.Labels)
		t.Kids, t.Arms = roomy(t.Kids), roomy(t.Arms)
		for i := range t.Arms {
			t.Arms[i].Vars = roomy(t.Arms[i].Vars)
		}
	}
	return p
}

func over[A any](l []A, with A) {
	full := l[:cap(l)]
	for i := range full {
		full[i] = with
	}
}

func overType(t api.Type) {
	for _, arg := range t.Args {
		overType(arg)
	}
	over(t.Row.Labels, "over")
	over(t.Args, api.Type{Kind: 77, Name: "over"})
}

// overProgram writes over all that a program has, and what lies behind its lists.
func overProgram(p api.Program) {
	for _, t := range slices.Backward(within(&p.Body)) {
		overType(t.Type)
		overType(t.Own)
		over(t.Row.Labels, "over")
		for _, arm := range t.Arms {
			over(arm.Vars, "over")
		}
		over(t.Kids, api.Term{Kind: 77})
		over(t.Arms, api.Arm{Name: "over"})
	}
	for _, e := range p.Effects {
		over(e.Ops, api.OpSig{Name: "over"})
	}
	over(p.Effects, api.Effect{Name: "over"})
	for _, d := range p.Datas {
		for _, c := range d.Cons {
			over(c.Fields, api.Type{Kind: 77})
		}
		over(d.Cons, api.ConSig{Name: "over"})
	}
	over(p.Datas, api.Data{Name: "over"})
}

// untouched tells whether nothing lies behind the items of a list.
func untouched[A any](l []A) bool {
	return !slices.ContainsFunc(l[len(l):cap(l)], func(item A) bool { return !reflect.ValueOf(item).IsZero() })
}

// TestOwnersCheck: what is handed in stays, and what is behind its lists too; the same calls have the same answers.
func TestOwnersCheck(t *testing.T) {
	m := newMaker(t, 4)
	for range 300 {
		kept := m.whole(1 + m.under(4))
		kept.Body = own(kept.Body)
		if m.under(2) == 0 {
			m.spoil(&kept.Body)
		}
		p := ownProgram(kept)
		at, err := check.Check(p)
		if !reflect.DeepEqual(p, ownProgram(kept)) {
			t.Fatalf("%s was changed: %q", source(kept), all(p.Body))
		}
		for _, place := range within(&p.Body) {
			if !untouched(place.Type.Args) || !untouched(place.Row.Labels) || !untouched(place.Kids) || !untouched(place.Arms) {
				t.Fatalf("%s: something was written behind what was handed in", source(kept))
			}
		}
		wantCheck(t, "again", p, at, err)
		check.Check(read(t, "fun x -> x"))
		wantCheck(t, "and again", kept, at, err)
	}
}

// TestOwnersErase: what is handed in stays, and may be written over, and so may be what is answered.
func TestOwnersErase(t *testing.T) {
	m := newMaker(t, 5)
	for range 300 {
		kept := m.whole(1 + m.under(4))
		p := ownProgram(kept)
		out := check.Erase(p)
		want := ownProgram(out)
		overProgram(out)
		if !reflect.DeepEqual(p, ownProgram(kept)) {
			t.Fatalf("%s was changed: %q", source(kept), all(p.Body))
		}
		out = check.Erase(p)
		overProgram(p)
		if !reflect.DeepEqual(out, want) {
			t.Fatalf("%s hangs on what was handed in", source(kept))
		}
	}
}

// TestListsApart: no two lists of what Erase answers are one.
func TestListsApart(t *testing.T) {
	arm := api.Arm{Name: "One", Vars: []string{"x"}, Body: api.Term{Kids: []api.Term{{}, {}}}}
	shared := api.Term{Kids: []api.Term{arm.Body, arm.Body}, Arms: []api.Arm{arm, arm}}
	out := check.Erase(api.Program{Body: api.Term{Kids: []api.Term{shared, shared}, Arms: []api.Arm{{Body: shared}, arm}}})
	met := map[any]int{} // where lists lie
	for _, t := range within(&out.Body) {
		if len(t.Kids) > 0 {
			met[&t.Kids[0]]++
		}
		if len(t.Arms) > 0 {
			met[&t.Arms[0]]++
		}
		for _, arm := range t.Arms {
			if len(arm.Vars) > 0 {
				met[&arm.Vars[0]]++
			}
		}
	}
	for at, times := range met {
		if times > 1 {
			t.Errorf("a list stands %d times: %T", times, at)
		}
	}
	if len(met) < 25 {
		t.Errorf("only %d lists", len(met))
	}
}
