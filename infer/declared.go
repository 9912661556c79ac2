package infer

import "brocade/api"

// signature is what a term does with its kids: of which types they have to be, of which type it is then,
// and which label its row has to have; none, if that is empty.
type signature struct {
	takes   []api.Type
	answers api.Type
	label   string
}

// declared are the signatures of a program's operations and constructors, by their names.
type declared struct {
	ops, cons map[string]signature
}

func declare(p api.Program) declared {
	d := declared{ops: map[string]signature{}, cons: map[string]signature{}}
	for _, effect := range p.Effects {
		for _, op := range effect.Ops {
			d.ops[op.Name] = signature{[]api.Type{op.Arg}, op.Res, effect.Name}
		}
	}
	for _, data := range p.Datas {
		for _, con := range data.Cons {
			d.cons[con.Name] = signature{con.Fields, api.Type{Kind: api.TypData, Name: data.Name}, ""}
		}
	}
	return d
}

// operator is an operator's signature, of anything of some type: which that is is not known yet.
func operator(name string, anything api.Type) signature {
	whole, unit := plain(api.TypInt), plain(api.TypUnit)
	cell := api.Type{Kind: api.TypRef, Args: []api.Type{anything}}
	switch name {
	case "<", "=":
		return signature{takes: []api.Type{whole, whole}, answers: plain(api.TypBool)}
	case "print":
		return signature{takes: []api.Type{whole}, answers: unit, label: api.Console}
	case "read":
		return signature{answers: whole, label: api.Console}
	case "ref":
		return signature{takes: []api.Type{anything}, answers: cell}
	case "!":
		return signature{takes: []api.Type{cell}, answers: anything}
	case ":=":
		return signature{takes: []api.Type{cell, anything}, answers: unit}
	}
	return signature{takes: []api.Type{whole, whole}, answers: whole}
}

// plain is a type of a kind that has nothing else.
func plain(kind int) api.Type { return api.Type{Kind: kind} }

func function(takes api.Type, happens api.Row, answers api.Type) api.Type {
	return api.Type{Kind: api.TypFun, Args: []api.Type{takes, answers}, Row: happens}
}
