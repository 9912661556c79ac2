package source_test

import (
	"fmt"
	"math"
	"testing"

	"brocade/api"
	"brocade/source"
)

// term is a term of some kind and name.
func term(kind int, name string, kids ...api.Term) api.Term {
	return api.Term{Kind: kind, Name: name, Kids: kids}
}

func variable(name string) api.Term { return term(api.TermVar, name) }

func whole(n int) api.Term { return api.Term{Kind: api.TermInt, N: n} }

func apply(f, a api.Term) api.Term { return term(api.TermApp, "", f, a) }

func let(name string, is, in api.Term) api.Term { return term(api.TermLet, name, is, in) }

func rec(name, param string, body, in api.Term) api.Term {
	t := term(api.TermRec, name, body, in)
	t.Param = param
	return t
}

func arm(name string, body api.Term, vars ...string) api.Arm {
	return api.Arm{Name: name, Vars: vars, Body: body}
}

func match(of api.Term, arms ...api.Arm) api.Term {
	return api.Term{Kind: api.TermMatch, Kids: []api.Term{of}, Arms: arms}
}

func handle(of api.Term, arms ...api.Arm) api.Term {
	return api.Term{Kind: api.TermHandle, Name: "E", Kids: []api.Term{of}, Arms: arms}
}

func do(op string, with api.Term) api.Term { return term(api.TermDo, op, with) }

func body(t api.Term) api.Program { return api.Program{Body: t} }

// wantTerm holds how a term runs.
func wantTerm(t *testing.T, b api.Term, want api.Run) {
	t.Helper()
	what := fmt.Sprintf("%+v", b)
	wantRun(t, what, ways(t, what, body(b), []int{1, 2, 3}, 1000), want)
}

// TestNeeded has terms without what is needed: they are stuck in their own step, whatever is within them.
func TestNeeded(t *testing.T) {
	one, first := whole(1), arm("return", variable("x"), "x")
	for _, b := range []api.Term{
		{}, {Kind: -1}, {Kind: 15}, {Kind: 16}, {Kind: math.MinInt}, {Kind: 15, Kids: []api.Term{one, one, one}, Arms: []api.Arm{first}},
		variable("x"), variable(""),
		term(api.TermFun, "x"),
		term(api.TermApp, ""), term(api.TermApp, "", one),
		term(api.TermLet, "x"), term(api.TermLet, "x", one),
		term(api.TermRec, "f"), term(api.TermRec, "f", one),
		term(api.TermIf, ""), term(api.TermIf, "", one), term(api.TermIf, "", term(api.TermBool, ""), one),
		{Kind: api.TermMatch, Arms: []api.Arm{arm("A", one)}},
		term(api.TermDo, "get"),
		handle(one), handle(one, arm("return", one)), handle(one, arm("return", one), first), {Kind: api.TermHandle, Arms: []api.Arm{first}},
		term(api.TermOp, ""), term(api.TermOp, "", one), term(api.TermOp, "", one, one), term(api.TermOp, "%", one, one), term(api.TermOp, "++", one, one), term(api.TermOp, "Print", one),
		term(api.TermOp, "read", one), term(api.TermOp, "read", one, one),
		term(api.TermOp, "!"), term(api.TermOp, "!", one, one),
	} {
		wantTerm(t, b, stuck(1, 0))
	}
	for _, name := range []string{"print", "ref"} {
		wantTerm(t, term(api.TermOp, name), stuck(1, 0))
		wantTerm(t, term(api.TermOp, name, one, one), stuck(1, 0))
	}
	for _, name := range []string{"+", "-", "*", "/", "<", "=", ":="} {
		wantTerm(t, term(api.TermOp, name), stuck(1, 0))
		wantTerm(t, term(api.TermOp, name, one), stuck(1, 0))
		wantTerm(t, term(api.TermOp, name, one, one, one), stuck(1, 0))
	}
}

// TestMore has terms with more than is needed: what is more has no meaning, but that operators are told by it.
func TestMore(t *testing.T) {
	one, two, no := whole(1), whole(2), api.Term{}
	yes := api.Term{Kind: api.TermBool, N: 1}
	bool3 := term(api.TermBool, "n", no)
	bool3.N = 3
	wantTerm(t, term(api.TermInt, "n", no), is(number(0), 1, 0))
	wantTerm(t, bool3, is(truth(1), 1, 0))
	wantTerm(t, term(api.TermUnit, "n", no), is(unit(), 1, 0))
	wantTerm(t, apply(term(api.TermFun, "x", variable("x"), no), one), is(number(1), 6, 0))
	wantTerm(t, term(api.TermApp, "n", term(api.TermFun, "x", two), one, no), is(number(2), 6, 0))
	wantTerm(t, term(api.TermLet, "x", one, two, no), is(number(2), 4, 0))
	wantTerm(t, term(api.TermRec, "f", one, two, no), is(number(2), 2, 0))
	wantTerm(t, term(api.TermIf, "", yes, one, two, no), is(number(1), 4, 0))
	matching := match(term(api.TermCon, "A"), arm("A", two))
	matching.Kids = append(matching.Kids, no)
	wantTerm(t, matching, is(number(2), 4, 0))
	asked := handle(term(api.TermDo, "get", one, no), arm("any", no, "x", "y", "z"), arm("get", variable("a"), "a", "k"))
	asked.Kids = append(asked.Kids, no)
	wantTerm(t, asked, is(number(1), 5, 1))
	wantTerm(t, handle(one, arm("any", variable("x"), "x", "y"), api.Arm{}), is(number(1), 4, 0))
	wantTerm(t, handle(one, arm("any", variable("y"), "x", "y"), api.Arm{}), stuck(4, 0))
}

// TestBits has all that N may be.
func TestBits(t *testing.T) {
	for n, bit := range map[int]int{0: 0, 1: 1, 2: 0, 3: 1, -1: 1, -2: 0, -3: 1, 1 << 40: 0, math.MaxInt: 1, math.MinInt: 0, math.MinInt + 1: 1} {
		b := api.Term{Kind: api.TermBool, N: n}
		wantTerm(t, b, is(truth(bit), 1, 0))
		wantTerm(t, term(api.TermIf, "", b, whole(1), whole(0)), is(number(bit), 4, 0))
		wantTerm(t, whole(n), is(number(n), 1, 0))
		wantTerm(t, api.Term{Kind: api.TermUnit, N: n}, is(unit(), 1, 0))
		wantTerm(t, api.Term{Kind: api.TermCon, Name: "A", N: n}, is(con("A"), 1, 0))
	}
}

// TestEmptyNames has names that are empty: they are names like others, but a rec's own name that is empty is none.
func TestEmptyNames(t *testing.T) {
	none, five := variable(""), whole(5)
	wantTerm(t, let("", five, none), is(number(5), 4, 0))
	wantTerm(t, apply(term(api.TermFun, "", none), five), is(number(5), 6, 0))
	wantTerm(t, rec("", "x", five, none), is(fun(), 2, 0))
	wantTerm(t, rec("", "x", none, apply(none, five)), stuck(7, 0))
	wantTerm(t, rec("", "x", variable("x"), apply(none, five)), is(number(5), 7, 0))
	wantTerm(t, rec("", "", none, apply(none, five)), is(number(5), 7, 0))
	wantTerm(t, rec("f", "", variable("f"), apply(variable("f"), five)), is(fun(), 7, 0))
	wantTerm(t, let("", five, rec("", "x", none, apply(none, whole(6)))), is(number(5), 10, 0))
	wantTerm(t, let("f", five, rec("f", "x", variable("f"), apply(variable("f"), whole(6)))), is(fun(), 10, 0))
	wantTerm(t, term(api.TermCon, ""), is(con(""), 1, 0))
	wantTerm(t, match(term(api.TermCon, "", five), arm("", none, ""), arm("A", none, "")), is(number(5), 6, 0))
	wantTerm(t, handle(do("", five), arm("", none, ""), arm("", none, "", "k")), is(number(5), 5, 1))
	wantTerm(t, do("", five), stuck(3, 0))
}

// TestClauses has handlers whose clauses have other numbers of names: they are for nothing.
func TestClauses(t *testing.T) {
	ask, first, x := do("get", whole(5)), arm("return", whole(7), "x"), variable("x")
	clause := func(n int, vars ...string) api.Arm { return arm("get", whole(n), vars...) }
	wantTerm(t, handle(ask, first), stuck(4, 0))
	for _, a := range []api.Arm{clause(1), clause(1, "x"), clause(1, "x", "k", "k"), arm("set", x, "x", "k"), arm("", x, "x", "k"), {}} {
		wantTerm(t, handle(ask, first, a), stuck(4, 0))
		wantTerm(t, handle(ask, first, a, clause(2, "x", "k"), clause(3, "x", "k")), is(number(2), 5, 1))
		wantTerm(t, handle(handle(ask, first, a), first, clause(3, "x", "k")), is(number(3), 6, 1))
	}
	wantTerm(t, handle(ask, arm("get", x, "x", "k")), stuck(4, 0))
	wantTerm(t, handle(ask, arm("get", x, "x", "k"), clause(2, "x", "k")), is(number(2), 5, 1))
	wantTerm(t, handle(handle(ask, arm("get", x, "x", "k")), first, clause(3, "x", "k")), is(number(3), 6, 1))
	wantTerm(t, handle(whole(6), arm("get", x, "x", "k")), is(number(6), 4, 0))
	inner := handle(do("get", whole(5)), first, clause(1, "x"))
	outer := handle(inner, arm("return", apply(x, x), "x"), arm("get", apply(variable("k"), variable("y")), "y", "k"))
	wantTerm(t, outer, stuck(18, 1)) // the resumption has the inner handler: 7, and then 7 7
}

// TestParts has all kinds with all sorts of parts: both ways go the same steps.
func TestParts(t *testing.T) {
	kids := []api.Term{apply(variable("f"), variable("f")), {Kind: api.TermBool, N: 1}, do("get", whole(1)), term(api.TermCon, "get", whole(3))}
	arms := []api.Arm{arm("get", variable("x"), "x", "k"), arm("get", apply(variable("k"), variable("x")), "k", "x"), arm("get", variable("k"), "k"), arm("x", whole(2), "x"), {Name: "get"}}
	ends := map[int]int{}
	for kind := -1; kind <= 16; kind++ {
		for n := range 5 {
			for from := range 4 {
				for some := range 31 {
					for _, name := range []string{"get", "f", "+", "print", "read", ""} {
						b := api.Term{Kind: kind, Name: name, Param: "x", N: some}
						for i := range n {
							b.Kids = append(b.Kids, kids[(from+i)%4])
						}
						for i := range 5 {
							if some>>i&1 == 1 {
								b.Arms = append(b.Arms, arms[(i+from)%5])
							}
						}
						around := handle(let("f", term(api.TermFun, "x", whole(4)), b), arm("return", variable("x"), "x"), arm("get", whole(9), "x", "k"))
						ends[partsEnd(t, b)]++
						ends[partsEnd(t, around)]++
					}
				}
			}
		}
	}
	for _, end := range []int{api.OutValue, api.OutInput, api.OutStuck} {
		if ends[end] < 100 {
			t.Errorf("%d ended as %d", ends[end], end)
		}
	}
}

// partsEnd is how a small term ends, by both ways.
func partsEnd(t *testing.T, b api.Term) int {
	t.Helper()
	got, slow := source.Run(body(b), nil, 60), slowStart(body(b), nil)
	for range 60 {
		if !slow.step() {
			break
		}
	}
	if !sameRun(got, slow.now()) {
		t.Fatalf("%+v: %v, not %v", b, got, slow.now())
	}
	return got.Outcome.Kind
}
