package check_test

import (
	"reflect"
	"slices"
	"testing"

	"brocade/api"
	"brocade/check"
)

// stripped is a program without what Erase takes away, term by term.
func stripped(p api.Program) api.Program {
	p.Body = own(p.Body)
	for _, t := range within(&p.Body) {
		t.Type, t.Row, t.Own = api.Type{}, api.Row{}, api.Type{}
	}
	return p
}

func wantErased(t *testing.T, what any, p api.Program) {
	t.Helper()
	if got, want := check.Erase(p), stripped(p); !reflect.DeepEqual(got, want) {
		t.Fatalf("%v: %+v, not %+v", what, got, want)
	}
}

// TestErase: nothing is left of types, rows and owns, in terms of all kinds, and all else is as it was.
func TestErase(t *testing.T) {
	m := newMaker(t, 3)
	for range 300 {
		p := m.whole(1 + m.under(5))
		for _, at := range within(&p.Body) {
			at.N, at.At = m.under(100)-50, m.under(100)-50
			if m.under(3) == 0 {
				at.Param, at.Own = m.name(), m.typ(3)
			}
			if m.under(3) == 0 {
				at.Type, at.Row = m.otherType(at.Type, []*api.Term{at}), m.otherRow(at.Row, []*api.Term{at})
			}
		}
		wantErased(t, source(p), p)
		bare := check.Erase(p)
		if again := check.Erase(bare); !reflect.DeepEqual(again, bare) {
			t.Fatalf("%s: %+v, not %+v", source(p), again, bare)
		}
	}
}

// TestEraseWrong has programs that are not right in any way, and lists that are empty or not there.
func TestEraseWrong(t *testing.T) {
	odd := api.Type{Kind: 9, Name: "odd", Var: -1, Args: []api.Type{variable(1), {}}, Row: row(3, "b", "a")}
	kinds := make([]api.Term, 18)
	for i := range kinds {
		kinds[i] = api.Term{Kind: i - 1, At: -i, Name: "name", Param: "param", N: i, Type: odd, Row: odd.Row, Own: odd}
		kinds[i].Kids = []api.Term{{Kind: api.TermInt, Type: odd}, {Own: odd}}
		kinds[i].Arms = []api.Arm{{Name: "arm", Vars: []string{"x", "x", ""}, Body: api.Term{Row: odd.Row}}, {}}
	}
	for i, body := range kinds {
		wantErased(t, i, api.Program{Body: body})
		body.Kids, body.Arms = kinds, []api.Arm{{Body: api.Term{Kids: kinds}}}
		wantErased(t, i, api.Program{Body: body})
	}
	for i, p := range []api.Program{
		{},
		{Effects: []api.Effect{}, Datas: []api.Data{}, Body: api.Term{Kids: []api.Term{}, Arms: []api.Arm{}}},
		{Effects: []api.Effect{{Name: "E", Ops: []api.OpSig{}}, {}}, Datas: []api.Data{{Name: "D", Cons: []api.ConSig{}}, {}}},
		{Effects: []api.Effect{{Ops: []api.OpSig{{Name: "op", Arg: odd, Res: odd}}}}, Datas: []api.Data{{Cons: []api.ConSig{{Name: "C", Fields: []api.Type{odd}}, {Fields: []api.Type{}}}}}},
		{Body: api.Term{Arms: []api.Arm{{Vars: []string{}}}}},
	} {
		wantErased(t, i, p)
	}
}

// twice is the same term two times, so many times over.
func twice(inmost api.Term, deep int) api.Term {
	for range deep {
		inmost.Kids = []api.Term{inmost, inmost}
	}
	return inmost
}

// wantBareSpine goes down a term, always into its last part, and holds it against another one of the same form.
func wantBareSpine(t *testing.T, got, from api.Term, levels int) {
	t.Helper()
	for level := range levels {
		if got.Type.Kind != 0 || len(got.Row.Labels) > 0 || got.Own.Kind != 0 || got.Kind != from.Kind || got.At != from.At || len(got.Kids) != len(from.Kids) || len(got.Arms) != len(from.Arms) {
			t.Fatalf("%d levels deep: %d, %d, with %d kids, %d arms", level, got.Kind, got.At, len(got.Kids), len(got.Arms))
		}
		for i, arm := range got.Arms {
			if !slices.Equal(arm.Vars, from.Arms[i].Vars) {
				t.Fatalf("%d levels deep: %q", level, arm.Vars)
			}
		}
		switch {
		case len(got.Arms) > 0:
			got, from = got.Arms[len(got.Arms)-1].Body, from.Arms[len(from.Arms)-1].Body
		case len(got.Kids) > 0:
			got, from = got.Kids[len(got.Kids)-1], from.Kids[len(from.Kids)-1]
		}
	}
}

// TestEraseShared has terms with lists together: each place has a list of its own, unless they are more than anyone
// could count.
func TestEraseShared(t *testing.T) {
	one := api.Term{Kind: api.TermInt, At: 3, Type: typ("int"), Row: row(0, "console"), Own: typ("bool")}
	p := api.Program{Body: twice(one, 10)}
	wantErased(t, "shared", p)
	got := check.Erase(p).Body
	if len(within(&got)) != 2047 || &got.Kids[0].Kids[0] == &got.Kids[1].Kids[0] {
		t.Errorf("%d terms, with lists together", len(within(&got)))
	}
	for _, deep := range []int{40, 1000} {
		p.Body = twice(one, deep)
		kept := p.Body.Kids[0]
		wantBareSpine(t, check.Erase(p).Body, p.Body, deep+3)
		if told(kept) != told(one) || told(p.Body.Kids[1]) != told(one) {
			t.Errorf("what was handed in was changed: %s", told(kept))
		}
	}
}

// TestEraseWithinItself: of terms that stand within themselves Erase ends, and goes all the way round.
func TestEraseWithinItself(t *testing.T) {
	for _, arms := range []int{0, 1, 2} {
		for _, kids := range []int{1, 2} {
			self := api.Term{Kind: api.TermMatch, At: 5, Type: typ("int"), Row: row(0, "console"), Own: typ("bool"), Kids: make([]api.Term, kids)}
			for range arms {
				self.Arms = append(self.Arms, api.Arm{Name: "A", Vars: []string{"x"}})
			}
			for _, part := range parts(&self) {
				*part = self
			}
			wantBareSpine(t, check.Erase(api.Program{Body: self}).Body, self, 1000)
			if told(self.Kids[kids-1]) != told(self) {
				t.Error("what was handed in was changed")
			}
		}
	}
}

// TestEraseDeep has terms deeper than anything is promised of.
func TestEraseDeep(t *testing.T) {
	deep := api.Term{Kind: api.TermInt, Type: typ("int")}
	for n := range 300000 {
		deep = api.Term{Kind: api.TermOp, At: n, Type: typ("int"), Kids: []api.Term{deep}}
	}
	wantBareSpine(t, check.Erase(api.Program{Body: deep}).Body, deep, 300001)
}
