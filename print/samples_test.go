package print_test

import "brocade/api"

func variable(name string) api.Term { return api.Term{Kind: api.TermVar, Name: name} }

// samples is a term of each kind, and of each sort of them; whoever asks gets new ones.
func samples() []api.Term {
	x := func(count int) []api.Term { return just(count, func() api.Term { return variable("x") }) }
	return []api.Term{
		variable("x"),
		{Kind: api.TermInt, N: 7},
		{Kind: api.TermBool},
		{Kind: api.TermBool, N: 1},
		{Kind: api.TermUnit},
		{Kind: api.TermFun, Name: "x", Kids: x(1)},
		{Kind: api.TermApp, Kids: x(2)},
		{Kind: api.TermLet, Name: "y", Kids: x(2)},
		{Kind: api.TermRec, Name: "f", Param: "y", Kids: x(2)},
		{Kind: api.TermIf, Kids: x(3)},
		{Kind: api.TermOp, Name: "read"},
		{Kind: api.TermOp, Name: "print", Kids: x(1)},
		{Kind: api.TermOp, Name: "ref", Kids: x(1)},
		{Kind: api.TermOp, Name: "!", Kids: x(1)},
		{Kind: api.TermOp, Name: ":=", Kids: x(2)},
		{Kind: api.TermOp, Name: "<", Kids: x(2)},
		{Kind: api.TermOp, Name: "=", Kids: x(2)},
		{Kind: api.TermOp, Name: "+", Kids: x(2)},
		{Kind: api.TermOp, Name: "-", Kids: x(2)},
		{Kind: api.TermOp, Name: "*", Kids: x(2)},
		{Kind: api.TermOp, Name: "/", Kids: x(2)},
		{Kind: api.TermCon, Name: "C"},
		{Kind: api.TermCon, Name: "C", Kids: x(2)},
		{Kind: api.TermMatch, Kids: x(1)},
		{Kind: api.TermMatch, Kids: x(1), Arms: []api.Arm{{Name: "A", Body: variable("x")}, {Name: "B", Vars: []string{"x", "y"}, Body: variable("x")}}},
		{Kind: api.TermDo, Name: "get", Kids: x(1)},
		{Kind: api.TermHandle, Name: "E", Kids: x(1), Arms: []api.Arm{{Name: "return", Vars: []string{"x"}, Body: variable("x")}}},
		{Kind: api.TermHandle, Name: "E", Kids: x(1), Arms: []api.Arm{{Name: "return", Vars: []string{"x"}, Body: variable("x")}, {Name: "get", Vars: []string{"a", "k"}, Body: variable("x")}}},
	}
}

// places is where terms stand right within a term.
func places(t *api.Term) []*api.Term {
	var l []*api.Term
	for i := range t.Kids {
		l = append(l, &t.Kids[i])
	}
	for i := range t.Arms {
		l = append(l, &t.Arms[i].Body)
	}
	return l
}
