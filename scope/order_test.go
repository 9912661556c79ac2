package scope_test

import (
	"testing"

	"brocade/api"
)

// ordered has a term of each kind that has more than one place within it, or that may be wrong itself; each place is free.
func ordered() []api.Term {
	hole := api.Term{Kind: api.TermUnit}
	kids := func(count int) []api.Term { return make([]api.Term, count) }
	return []api.Term{
		{Kind: api.TermFun, Name: "a", Kids: kids(1)}, {Kind: api.TermApp, Kids: kids(2)}, {Kind: api.TermLet, Name: "a", Kids: kids(2)}, {Kind: api.TermRec, Name: "a", Param: "b", Kids: kids(2)}, {Kind: api.TermIf, Kids: kids(3)},
		{Kind: api.TermOp, Name: "+", Kids: kids(2)}, {Kind: api.TermOp, Name: "ref", Kids: kids(1)}, {Kind: api.TermCon, Name: "B", Kids: kids(2)}, {Kind: api.TermDo, Name: "ask", Kids: kids(1)},
		{Kind: api.TermMatch, Kids: kids(1), Arms: []api.Arm{way(hole, "A", "a"), way(hole, "B", "a", "b"), way(hole, "C")}},
		{Kind: api.TermHandle, Name: "E", Kids: kids(1), Arms: []api.Arm{way(hole, "return", "a"), way(hole, "ask", "a", "b"), way(hole, "tell", "a", "b")}},
	}
}

// places are the places right within a term.
func places(t *api.Term) []*api.Term {
	var out []*api.Term
	for i := range t.Kids {
		out = append(out, &t.Kids[i])
	}
	for i := range t.Arms {
		out = append(out, &t.Arms[i].Body)
	}
	return out
}

// wrongs have something wrong with them, each by another rule.
func wrongs() []api.Term {
	unit := []api.Term{{Kind: api.TermUnit, At: 500}}
	return []api.Term{
		{Kind: api.TermVar, Name: "free"}, {Kind: api.TermOp, Name: "%"}, {Kind: api.TermOp, Name: "+", Kids: unit}, {Kind: api.TermCon, Name: "No"}, {Kind: api.TermCon, Name: "Nil", Kids: unit}, {Kind: api.TermDo, Name: "no", Kids: unit},
		{Kind: api.TermHandle, Name: "No", Kids: unit, Arms: []api.Arm{way(unit[0], "return", "x")}}, {Kind: api.TermMatch, Kids: unit}, {Kind: 15}, {}, {Kind: api.TermInt, Kids: unit}, {Kind: api.TermUnit, Arms: []api.Arm{way(unit[0], "A", "x")}},
	}
}

// TestOrder has something wrong at each two places of each kind: the one that is ahead is told, and the term itself ahead of both.
func TestOrder(t *testing.T) {
	p := read(t, declarations+"1")
	for i := range ordered() {
		count := len(places(&ordered()[i]))
		for early := range count {
			for late := early; late < count; late++ {
				for j := range wrongs() {
					for _, second := range wrongs() {
						p.Body = ordered()[i]
						for place, at := range places(&p.Body) {
							*at = api.Term{Kind: api.TermUnit, At: 100 + place}
						}
						p.Body.At = 99
						second.At = 201
						*places(&p.Body)[late] = second
						*places(&p.Body)[early] = wrongs()[j]
						places(&p.Body)[early].At = 300
						wantCheck(t, p.Body, p, 300, api.ErrScope)
						p.Body.Kids = append(p.Body.Kids, second)
						wantCheck(t, p.Body, p, 99, api.ErrScope)
					}
				}
			}
		}
	}
}

// TestOrderDeep: what is far within an early place is ahead of a late one.
func TestOrderDeep(t *testing.T) {
	for _, body := range []string{
		"(fun x -> fun y -> §z) w", "if (if §x then 1 else 2) then y else z", "match (fun x -> §y) { Nil -> z ; Cons h t -> w }", "match 1 { Nil -> fun x -> 1 ; Cons h t -> §w h v }",
		"handle E (§x 1) { return y -> z ; ask a k -> z ; tell a k -> z }", "handle E 1 { return y -> y §z ; ask a k -> v ; tell a k -> w }", "handle E 1 { return y -> y ; ask a k -> k (fun y -> §v) ; tell a k -> w }",
		"(fun x -> match x { One y -> §z }) (no!1)", "(fun x -> §match x { One -> z }) (no!1)", "let x = print §Cons(y) in v", "§no!x", "fun y -> §handle H x { return y -> z }", "Cons(1, Pair(One(true), Cons(2, §Nil(x))))",
	} {
		wantMarked(t, body)
	}
}
