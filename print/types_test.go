package print_test

import (
	"testing"

	"brocade/api"
)

// typeSpots are the places of a type in a program.
func typeSpots(p *api.Program) []*api.Type {
	op, con := &p.Effects[1].Ops[0], &p.Datas[1].Cons[1]
	return []*api.Type{&op.Arg, &op.Res, &con.Fields[0], &con.Fields[1]}
}

func wantTypes(t *testing.T, put api.Type, fine bool) {
	t.Helper()
	for i := range 4 {
		p := whole()
		*typeSpots(&p)[i] = put
		if fine {
			wantText(t, p, slowProgram(p))
		} else {
			wantWrong(t, put, p)
		}
	}
}

// TestTypes puts types of all kinds, with all sorts of parts, into each place of a type.
func TestTypes(t *testing.T) {
	for kind := -1; kind <= 9; kind++ {
		for _, name := range []string{"", "D", "int", "d", "D!", "D E"} {
			fine := name == "" && kind >= api.TypInt && kind <= api.TypUnit || name == "D" && kind == api.TypData
			wantTypes(t, api.Type{Kind: kind, Name: name}, fine)
			wantTypes(t, api.Type{Kind: kind, Name: name, Args: []api.Type{}, Row: api.Row{Labels: []string{}}}, fine)
			for _, more := range []api.Type{
				{Var: 1}, {Var: -1}, {Args: []api.Type{{}}}, {Args: []api.Type{{Kind: api.TypInt}, {Kind: api.TypInt}}},
				{Row: api.Row{Labels: []string{""}}}, {Row: api.Row{Labels: []string{"E"}}}, {Row: api.Row{Var: 1}}, {Row: api.Row{Var: -1}},
			} {
				more.Kind, more.Name = kind, name
				wantTypes(t, more, false)
			}
		}
	}
}

// TestDeclarations has lists without items, and names that stand twice: they can be written.
func TestDeclarations(t *testing.T) {
	unit := api.Term{Kind: api.TermUnit}
	wantText(t, api.Program{Body: unit}, "( )")
	wantText(t, api.Program{Body: unit, Effects: []api.Effect{}, Datas: []api.Data{}}, "( )")
	wantText(t, api.Program{Body: unit, Effects: []api.Effect{{Name: "E"}, {Name: "E", Ops: []api.OpSig{}}}}, "effect E { } effect E { } ( )")
	wantText(t, api.Program{Body: unit, Datas: []api.Data{{Name: "D"}, {Name: "D", Cons: []api.ConSig{}}, {Name: "D", Cons: []api.ConSig{{Name: "D"}, {Name: "D", Fields: []api.Type{}}}}}}, "data D { } data D { } data D { D ; D } ( )")
	wantWrong(t, "no body", api.Program{})
	wantWrong(t, "no name", api.Program{Body: unit, Effects: []api.Effect{{}}})
	wantWrong(t, "no name", api.Program{Body: unit, Datas: []api.Data{{}}})
	wantWrong(t, "no name", api.Program{Body: unit, Effects: []api.Effect{{Name: "E", Ops: []api.OpSig{{}}}}})
	wantWrong(t, "no name", api.Program{Body: unit, Datas: []api.Data{{Name: "D", Cons: []api.ConSig{{}}}}})
}
