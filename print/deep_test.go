package print_test

import (
	"strings"
	"testing"

	"brocade/api"
	"brocade/parse"
	"brocade/print"
)

// chain is a term so deep: one and the same within itself again and again, in one place of it.
func chain(link api.Term, place, deep int) api.Term {
	t := variable("x")
	for range deep - 1 {
		around := bare(link)
		*places(&around)[place] = t
		t = around
	}
	return t
}

// TestDeep has chains of each kind, in each place, as deep as can be written, and deeper.
func TestDeep(t *testing.T) {
	for _, sample := range samples() {
		for place := range places(&sample) {
			for _, deep := range []int{199, 200} {
				term := chain(sample, place, deep)
				wantText(t, api.Program{Body: term}, slowTerm(term))
			}
			for _, deep := range []int{201, 202, 999, 1000, 1001, 5000} {
				wantWrongTerm(t, deep, chain(sample, place, deep))
			}
		}
	}
}

// TestDeepMixed has terms of all kinds within each other: what is printed is never too deep to be read.
func TestDeepMixed(t *testing.T) {
	luck := dice(5)
	for range 60 {
		term := variable("x")
		for parse.Depth(term) < api.MaxDeep {
			forms := samples()
			around := &forms[luck.under(len(forms))]
			if spots := places(around); len(spots) > 0 {
				*spots[luck.under(len(spots))] = term
				term = *around
			}
		}
		wantText(t, api.Program{Body: term}, slowTerm(term))
		wantWrongTerm(t, "too deep", api.Term{Kind: api.TermFun, Name: "x", Kids: []api.Term{term}})
	}
}

// TestWrongWithin has a term that can not be written in each place of each kind, some terms deep, too.
func TestWrongWithin(t *testing.T) {
	for _, wrong := range []api.Term{{}, variable("X"), {Kind: 15}, {Kind: api.TermVar, Name: "x", Kids: []api.Term{variable("x")}}, {Kind: api.TermInt, N: -1}, {Kind: api.TermOp, Name: "%"}} {
		for i, sample := range samples() {
			for place := range places(&sample) {
				around := samples()[i]
				*places(&around)[place] = wrong
				wantWrongTerm(t, around, around)
				wantWrongTerm(t, around, api.Term{Kind: api.TermCon, Name: "C", Kids: append(samples(), around)})
				fun := chain(api.Term{Kind: api.TermFun, Name: "x", Kids: make([]api.Term, 1)}, 0, 20)
				inmost := &fun
				for len(inmost.Kids) > 0 {
					inmost = &inmost.Kids[0]
				}
				*inmost = around
				wantWrongTerm(t, fun, fun)
			}
		}
	}
}

// twice has the same term two times, so many times over.
func twice(inmost api.Term, deep int) api.Term {
	for range deep - 1 {
		inmost = api.Term{Kind: api.TermApp, Kids: []api.Term{inmost, inmost}}
	}
	return inmost
}

// TestShared has terms that are within each other more often than anyone could count, and within themselves (R2).
func TestShared(t *testing.T) {
	wantText(t, api.Program{Body: twice(variable("x"), 5)}, slowTerm(twice(variable("x"), 5)))
	if !print.Right(api.Program{Body: twice(variable("x"), 200)}) {
		t.Errorf("200 deep is not right")
	}
	wantWrongTerm(t, "201 deep", twice(variable("x"), 201))
	wantWrongTerm(t, "wrong within", twice(variable("X"), 200))
	way := api.Term{Kind: api.TermUnit}
	for range 199 {
		way = api.Term{Kind: api.TermMatch, Kids: []api.Term{way}, Arms: []api.Arm{{Name: "A", Body: way}, {Name: "B", Body: way}}}
	}
	if !print.Right(api.Program{Body: way}) {
		t.Errorf("200 deep is not right")
	}
	self := api.Term{Kind: api.TermFun, Name: "x", Kids: make([]api.Term, 1)}
	self.Kids[0] = self
	wantWrongTerm(t, "within itself", self)
	match := api.Term{Kind: api.TermMatch, Kids: []api.Term{variable("x")}, Arms: []api.Arm{{Name: "A"}}}
	match.Arms[0].Body = match
	wantWrongTerm(t, "within itself", match)
}

// TestLong has texts as long as a source may be, and longer: how long they are does not matter to Print.
func TestLong(t *testing.T) {
	name := strings.Repeat("x", 60)
	const most = (api.MaxSource - 3) / 63
	for _, count := range []int{1, 2, most - 1, most, most + 1} {
		p := api.Program{Body: api.Term{Kind: api.TermCon, Name: "C", Kids: just(count, func() api.Term { return variable(name) })}}
		want := "C ( " + name + strings.Repeat(" , "+name, count-1) + " )"
		if len(want) <= api.MaxSource {
			wantText(t, p, want)
			continue
		}
		if got, err := print.Print(p); count <= most || got != want || err != api.OK || !print.Right(p) {
			t.Errorf("%d: %d bytes and %v, right: %v", count, len(got), err, print.Right(p))
		}
	}
}
