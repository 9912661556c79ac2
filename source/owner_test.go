package source_test

import (
	"reflect"
	"slices"
	"testing"

	"brocade/api"
	"brocade/source"
	"brocade/value"
)

// roomy is a list with room behind its items.
func roomy[A any](l []A) []A {
	if l == nil {
		return nil
	}
	return append(make([]A, 0, len(l)+2), l...)
}

// own is a term with lists of its own, with room behind them.
func own(b api.Term) api.Term {
	b.Kids, b.Arms = roomy(b.Kids), roomy(b.Arms)
	for i := range b.Kids {
		b.Kids[i] = own(b.Kids[i])
	}
	for i := range b.Arms {
		b.Arms[i].Vars, b.Arms[i].Body = roomy(b.Arms[i].Vars), own(b.Arms[i].Body)
	}
	return b
}

// places are all terms in a term, the first one itself.
func places(b *api.Term) []*api.Term {
	out := []*api.Term{b}
	for i := range b.Kids {
		out = append(out, places(&b.Kids[i])...)
	}
	for i := range b.Arms {
		out = append(out, places(&b.Arms[i].Body)...)
	}
	return out
}

func over[A any](l []A, with A) {
	full := l[:cap(l)]
	for i := range full {
		full[i] = with
	}
}

// overTerm writes over all lists of a term, and what lies behind them.
func overTerm(b *api.Term) {
	for _, at := range slices.Backward(places(b)) {
		for _, a := range at.Arms {
			over(a.Vars, "over")
		}
		over(at.Kids, whole(77))
		over(at.Arms, arm("over", whole(78), "over"))
	}
}

// wantUntouched holds that nothing lies behind the lists of a term.
func wantUntouched(t *testing.T, b *api.Term) {
	t.Helper()
	for _, at := range places(b) {
		if !untouched(at.Kids) || !untouched(at.Arms) || slices.ContainsFunc(at.Arms, func(a api.Arm) bool { return !untouched(a.Vars) }) {
			t.Fatalf("something was written behind what was handed in: %+v", at)
		}
	}
}

// untouched tells whether nothing lies behind the items of a list.
func untouched[A any](l []A) bool {
	return !slices.ContainsFunc(l[len(l):cap(l)], func(item A) bool { return !reflect.ValueOf(item).IsZero() })
}

func overValue(v *api.Value) {
	for i := range v.Kids {
		overValue(&v.Kids[i])
	}
	over(v.Kids, number(99))
}

// overRun writes over what was answered.
func overRun(r *api.Run) {
	overValue(&r.Outcome.Value)
	over(r.Trace, -99)
}

// TestHandedIn: what is handed in stays, with what is behind its lists, and who owns it may write over it at once, or
// any number of steps behind: the machine goes on as it did.
func TestHandedIn(t *testing.T) {
	m := newMaker(21)
	for range 400 {
		kept, numbers := m.program(4), []int{3, 1, 4, 1, 5}
		want := source.Run(kept, numbers, 300)
		p, input := api.Program{Effects: slices.Clone(kept.Effects), Datas: slices.Clone(kept.Datas), Body: own(kept.Body)}, roomy(numbers)
		wantRun(t, shown{kept}, source.Run(p, input, 300), want)
		s := source.Start(p, input)
		for range m.under(20) {
			s.Step()
		}
		s.Now()
		if !reflect.DeepEqual(p.Body, own(kept.Body)) || !slices.Equal(input, numbers) {
			t.Fatalf("%+v was changed: %+v", kept.Body, p.Body)
		}
		wantUntouched(t, &p.Body)
		overTerm(&p.Body)
		over(p.Effects, api.Effect{})
		over(p.Datas, api.Data{})
		over(input, -5)
		for s.Now().Steps < 300 && s.Step() {
		}
		wantRun(t, shown{kept}, s.Now(), want)
	}
}

// TestAnswered: what is answered may be written over: it changes nothing within, nor other answers.
func TestAnswered(t *testing.T) {
	m := newMaker(22)
	for range 400 {
		p, numbers := m.program(4), []int{2, 7, 1, 8}
		want := source.Run(p, numbers, 300)
		again := source.Run(p, numbers, 300)
		s, apart := source.Start(p, numbers), source.Start(p, numbers)
		for s.Now().Steps < 300 && s.Step() {
			now := s.Now()
			overRun(&now)
		}
		now, same := s.Now(), s.Now()
		overRun(&now)
		overRun(&again)
		wantRun(t, shown{p}, same, want)
		wantRun(t, shown{p}, s.Now(), want)
		wantRun(t, shown{p}, source.Run(p, numbers, 300), want)
		wantRun(t, shown{p}, apart.Now(), api.Run{})
		for apart.Now().Steps < 300 && apart.Step() {
		}
		wantRun(t, shown{p}, apart.Now(), want)
	}
}

// TestListsApart: no two lists of an answer are one, though the value within has a list in many places.
func TestListsApart(t *testing.T) {
	p := read(t, "let a = A(1, 2) in let b = B(a, a) in let r = ref b in C(b, b, !r, a, !r)")
	v := source.Run(p, nil, 1000).Outcome.Value
	want := "C(B(A(1, 2), A(1, 2)), B(A(1, 2), A(1, 2)), B(A(1, 2), A(1, 2)), A(1, 2), B(A(1, 2), A(1, 2)))"
	if text, _ := value.Text(v); text != want {
		t.Fatalf("%s", text)
	}
	met := map[*api.Value]bool{}
	var look func(v api.Value)
	look = func(v api.Value) {
		if len(v.Kids) == 0 {
			return
		}
		if met[&v.Kids[0]] {
			t.Errorf("a list stands in two places: %v", v)
		}
		met[&v.Kids[0]] = true
		for _, kid := range v.Kids {
			look(kid)
		}
	}
	look(v)
	if len(met) != 14 {
		t.Errorf("%d lists", len(met))
	}
}

// TestTwoStates: two machines of one program, whose steps are done by turns, have nothing to do with each other.
func TestTwoStates(t *testing.T) {
	m := newMaker(23)
	for range 300 {
		p, input := m.program(4), []int{3, 1, 4}
		want := source.Run(p, input, 300)
		states := []*source.State{source.Start(p, input), source.Start(p, input), source.Start(p, input)}
		for turns := 0; turns < 900; turns++ {
			s := states[m.under(3)]
			if s.Now().Steps < 300 {
				s.Step()
			}
		}
		for _, s := range states {
			for s.Now().Steps < 300 && s.Step() {
			}
			wantRun(t, shown{p}, s.Now(), want)
		}
	}
}
