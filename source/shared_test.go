package source_test

import (
	"math"
	"testing"

	"brocade/api"
	"brocade/source"
)

// circles are terms that stand within themselves, by what goes on within them.
func circles() map[string]api.Term {
	yes := api.Term{Kind: api.TermBool, N: 1}
	leaf := term(api.TermCon, "A")
	back := func(b api.Term, at func(b *api.Term) *api.Term) api.Term {
		*at(&b) = b
		return b
	}
	kid := func(n int) func(b *api.Term) *api.Term { return func(b *api.Term) *api.Term { return &b.Kids[n] } }
	way := func(n int) func(b *api.Term) *api.Term { return func(b *api.Term) *api.Term { return &b.Arms[n].Body } }
	ask := handle(do("get", whole(1)), arm("return", whole(2), "x"), arm("get", whole(3), "x", "k"))
	both := apply(leaf, leaf)
	both.Kids[0], both.Kids[1] = both, both
	return map[string]api.Term{
		"a function's body":   apply(back(term(api.TermFun, "x", leaf), kid(0)), whole(1)),
		"a function":          back(apply(leaf, whole(1)), kid(0)),
		"an argument":         back(apply(term(api.TermFun, "x", whole(1)), leaf), kid(1)),
		"function, argument":  both,
		"what a let is":       back(let("x", leaf, whole(1)), kid(0)),
		"where a let is":      back(let("x", whole(1), leaf), kid(1)),
		"a rec's body":        back(rec("f", "x", leaf, apply(variable("f"), whole(1))), kid(0)),
		"where a rec is":      back(rec("f", "x", whole(1), leaf), kid(1)),
		"a condition":         back(term(api.TermIf, "", leaf, whole(1), whole(2)), kid(0)),
		"a way":               back(term(api.TermIf, "", yes, leaf, whole(2)), kid(1)),
		"the way not taken":   back(term(api.TermIf, "", yes, whole(1), leaf), kid(2)),
		"what is printed":     back(term(api.TermOp, "print", leaf), kid(0)),
		"what is added":       back(term(api.TermOp, "+", whole(1), leaf), kid(1)),
		"a field":             back(term(api.TermCon, "A", whole(1), leaf, whole(2)), kid(1)),
		"what is looked at":   back(match(leaf, arm("A", whole(1))), kid(0)),
		"what an arm does":    back(match(leaf, arm("A", whole(1))), way(0)),
		"what is asked with":  back(do("get", leaf), kid(0)),
		"what is handled":     back(handle(leaf, arm("return", whole(1), "x")), kid(0)),
		"what return does":    back(handle(whole(1), arm("return", whole(1), "x")), way(0)),
		"what a clause does":  back(ask, way(1)),
		"ahead of what stops": back(let("x", variable("x"), leaf), kid(1)),
	}
}

// TestCircles: of terms that stand within themselves, too, both ways go the same steps, and each call ends.
func TestCircles(t *testing.T) {
	for what, b := range circles() {
		got := ways(t, what, body(b), []int{1}, 300)
		if ends := what == "the way not taken" || what == "ahead of what stops" || what == "a function's body"; (got.Outcome.Kind == api.OutMore) == ends {
			t.Errorf("%s: %s", what, short(got))
		}
		got = source.Run(body(b), nil, 200000)
		s := source.Start(body(b), nil)
		for s.Now().Steps < 200000 && s.Step() {
		}
		wantRun(t, what, s.Now(), got)
	}
}

// TestCirclesOwned: a machine has lists of its own also of terms that stand within themselves.
func TestCirclesOwned(t *testing.T) {
	for what, b := range circles() {
		s, want := source.Start(body(b), nil), source.Run(body(b), nil, 1000)
		overCircle(b)
		for s.Now().Steps < 1000 && s.Step() {
		}
		wantRun(t, what, s.Now(), want)
	}
}

// overCircle writes over the lists of a term that stands within itself.
func overCircle(b api.Term) {
	for i := range b.Kids {
		kid := b.Kids[i]
		b.Kids[i] = api.Term{}
		overCircle(kid)
	}
	for i := range b.Arms {
		a := b.Arms[i]
		b.Arms[i] = api.Arm{}
		over(a.Vars, "over")
		overCircle(a.Body)
	}
}

// TestSharedTerms has terms that stand in more places than anyone could count.
func TestSharedTerms(t *testing.T) {
	yes, b, sum, twice := api.Term{Kind: api.TermBool, N: 1}, whole(7), whole(1), term(api.TermFun, "x", variable("x"))
	for range 1000 {
		b = term(api.TermIf, "", yes, b, b)
		sum = term(api.TermOp, "+", sum, sum)
		twice = match(term(api.TermCon, "A"), arm("B", twice), arm("A", twice), arm("A", twice))
	}
	wantRun(t, "if", ways(t, "if", body(b), nil, 5000), is(number(7), 3001, 0))
	wantRun(t, "match", ways(t, "match", body(twice), nil, 5000), is(fun(), 3001, 0))
	wantRun(t, "sum", source.Run(body(sum), nil, 100000), told(api.OutMore, api.Value{}, nil, 100000, 0))
	s := source.Start(body(sum), nil)
	for s.Now().Steps < 10000 && s.Step() {
	}
	wantRun(t, "sum", s.Now(), told(api.OutMore, api.Value{}, nil, 10000, 0))
}

// TestSharedBeginnings: lists that begin at the same place, but end at others, are not one.
func TestSharedBeginnings(t *testing.T) {
	kids := []api.Term{whole(1), whole(2), whole(3), whole(4)}
	arms := []api.Arm{arm("A", whole(5)), arm("B", whole(6)), arm("C", whole(7))}
	a, b := term(api.TermCon, "A", kids[:1]...), term(api.TermCon, "A", kids[:3]...)
	long, short := match(term(api.TermCon, "C"), arms...), match(term(api.TermCon, "C"), arms[:2]...)
	want := con("L", con("A", number(1)), con("A", number(1), number(2), number(3)), number(7))
	wantValue(t, "long", body(term(api.TermCon, "L", a, b, long)), want)
	want.Kids[0], want.Kids[1] = want.Kids[1], want.Kids[0]
	wantValue(t, "long", body(term(api.TermCon, "L", b, a, long)), want)
	for _, both := range []api.Term{term(api.TermCon, "L", long, short), term(api.TermCon, "L", short, long)} {
		if got := ways(t, "short", body(both), nil, 100); got.Outcome.Kind != api.OutStuck {
			t.Errorf("%v", got)
		}
	}
}

// TestDeepTerms has terms that are much deeper than is promised.
func TestDeepTerms(t *testing.T) {
	const deep = 100000
	sum, con, asked := whole(1), whole(1), whole(1)
	for range deep {
		sum = term(api.TermOp, "+", whole(1), sum)
		con = term(api.TermCon, "D", con)
		asked = do("get", asked)
	}
	wantValue(t, "sum", body(sum), number(deep+1))
	wantValue(t, "con", body(con), api.Value{Kind: api.ValCon, Name: "D"})
	all := handle(asked, arm("return", variable("x"), "x"), arm("get", apply(variable("k"), term(api.TermOp, "+", variable("x"), whole(1))), "x", "k"))
	wantValue(t, "asked", body(all), number(deep+1))
	if got := source.Run(body(asked), nil, math.MaxInt); got.Outcome.Kind != api.OutStuck || got.Steps != deep+2 {
		t.Errorf("%v", got)
	}
}
