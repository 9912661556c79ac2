package print_test

import "brocade/api"

// bare is a term without At, Type, Row and Own, its empty lists nil.
func bare(t api.Term) api.Term {
	t.At, t.Type, t.Row, t.Own = 0, api.Type{}, api.Row{}, api.Type{}
	t.Kids = each(t.Kids, bare)
	t.Arms = each(t.Arms, func(arm api.Arm) api.Arm {
		return api.Arm{Name: arm.Name, Vars: each(arm.Vars, same), Body: bare(arm.Body)}
	})
	return t
}

func bareProgram(p api.Program) api.Program {
	return api.Program{
		Effects: each(p.Effects, func(e api.Effect) api.Effect {
			return api.Effect{Name: e.Name, Ops: each(e.Ops, func(op api.OpSig) api.OpSig {
				return api.OpSig{Name: op.Name, Arg: bareType(op.Arg), Res: bareType(op.Res)}
			})}
		}),
		Datas: each(p.Datas, func(d api.Data) api.Data {
			return api.Data{Name: d.Name, Cons: each(d.Cons, func(con api.ConSig) api.ConSig {
				return api.ConSig{Name: con.Name, Fields: each(con.Fields, bareType)}
			})}
		}),
		Body: bare(p.Body),
	}
}

// bareType is a type of a declaration, its empty lists nil.
func bareType(t api.Type) api.Type {
	t.Args, t.Row.Labels = each(t.Args, bareType), each(t.Row.Labels, same)
	return t
}

// each is a new list of what becomes of a list's items; nil, if there are none.
func each[A, B any](l []A, become func(A) B) []B {
	var out []B
	for _, item := range l {
		out = append(out, become(item))
	}
	return out
}

func same(text string) string { return text }
