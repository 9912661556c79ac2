package check

import "brocade/api"

// signature is what the rules ask of a term whose kids are all in its own row: of which types these are,
// of which type it is, and which label its row has; none, if that is empty.
type signature struct {
	takes   []api.Type
	answers api.Type
	label   string
}

// declared are the signatures of a program's operations and constructors, by their names.
type declared struct {
	ops, cons map[string]signature
}

func declare(p api.Program) declared {
	d := declared{ops: map[string]signature{}, cons: map[string]signature{}}
	for _, effect := range p.Effects {
		for _, op := range effect.Ops {
			d.ops[op.Name] = signature{takes: []api.Type{op.Arg}, answers: op.Res, label: effect.Name}
		}
	}
	for _, data := range p.Datas {
		for _, con := range data.Cons {
			d.cons[con.Name] = signature{takes: con.Fields, answers: api.Type{Kind: api.TypData, Name: data.Name}}
		}
	}
	return d
}

// plain is a type of a kind that has nothing else.
func plain(kind int) api.Type { return api.Type{Kind: kind} }

func function(takes api.Type, happens api.Row, answers api.Type) api.Type {
	return api.Type{Kind: api.TypFun, Args: []api.Type{takes, answers}, Row: happens}
}

func ref(holds api.Type) api.Type { return api.Type{Kind: api.TypRef, Args: []api.Type{holds}} }
