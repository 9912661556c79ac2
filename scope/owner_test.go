package scope_test

import (
	"reflect"
	"slices"
	"testing"

	"brocade/api"
	"brocade/scope"
)

// overOps writes over a list of operations, and what lies behind it.
func overOps(ops []api.OpSig) {
	full := ops[:cap(ops)]
	for i := range full {
		full[i] = op("over", api.Type{Kind: 99}, api.Type{Kind: 99})
	}
}

func overFields(fields []api.Type) {
	full := fields[:cap(fields)]
	for i := range full {
		full[i] = api.Type{Kind: 99, Name: "over"}
	}
}

func overCons(cons []api.ConSig) {
	full := cons[:cap(cons)]
	for i := range full {
		overFields(full[i].Fields)
		full[i] = con("over")
	}
}

// roomy is a program whose lists have room behind their items; whoever asks gets a new one.
func roomy() api.Program {
	p := twins()
	for i, e := range p.Effects {
		p.Effects[i].Ops = append(make([]api.OpSig, 0, 9), e.Ops...)
	}
	for i, d := range p.Datas {
		for j, c := range d.Cons {
			d.Cons[j].Fields = append(make([]api.Type, 0, 9), c.Fields...)
		}
		p.Datas[i].Cons = append(make([]api.ConSig, 0, 9), d.Cons...)
	}
	return p
}

// TestOwnersAnswers writes over what is answered: nothing that was handed in changes, and nothing else that was answered (R1).
func TestOwnersAnswers(t *testing.T) {
	p, kept := roomy(), roomy()
	for _, name := range []string{"a", "b", "c", "d", "", "E", "F", "A", "B", "C", "none"} {
		effect, sig, _ := scope.Effect(p, name)
		wanted, wantedSig, _ := scope.Effect(kept, name)
		overOps(effect.Ops)
		want(t, name, p, kept)
		want(t, name, sig, wantedSig)
		handled, _ := scope.Handled(p, name)
		overOps(handled.Ops)
		want(t, name, p, kept)
		again, _, _ := scope.Effect(p, name)
		want(t, name, again, wanted)

		data, made, _ := scope.Con(p, name)
		wantedData, wantedCon, _ := scope.Con(kept, name)
		overCons(data.Cons)
		want(t, name, p, kept)
		want(t, name, made, wantedCon)
		data, made, _ = scope.Con(p, name)
		overFields(made.Fields)
		want(t, name, p, kept)
		want(t, name, data, wantedData)
	}
	for _, l := range [][]api.OpSig{p.Effects[0].Ops, p.Effects[1].Ops} {
		want(t, "behind the operations", l[len(l):cap(l)][0], api.OpSig{})
	}
	for _, l := range [][]api.Type{p.Datas[0].Cons[0].Fields, p.Datas[0].Cons[1].Fields} {
		want(t, "behind the fields", l[len(l):cap(l)][0], api.Type{})
	}
}

// TestOwnersHanded writes over what was handed in: what was answered stays.
func TestOwnersHanded(t *testing.T) {
	p, kept := roomy(), twins()
	effect, sig, _ := scope.Effect(p, "b")
	handled, _ := scope.Handled(p, "F")
	data, made, _ := scope.Con(p, "B")
	for _, e := range p.Effects {
		overOps(e.Ops)
	}
	for _, d := range p.Datas {
		overCons(d.Cons)
	}
	want(t, "Effect", effect, kept.Effects[0])
	want(t, "Effect", sig, kept.Effects[0].Ops[1])
	want(t, "Handled", handled, kept.Effects[1])
	want(t, "Con", data.Cons[1], kept.Datas[0].Cons[1])
	want(t, "Con", made, kept.Datas[0].Cons[1])
}

// copiedProgram is a program with lists of its own.
func copiedProgram(p api.Program) api.Program {
	p.Effects, p.Datas, p.Body = slices.Clone(p.Effects), slices.Clone(p.Datas), copied(p.Body)
	for i, e := range p.Effects {
		p.Effects[i].Ops = slices.Clone(e.Ops)
	}
	for i, d := range p.Datas {
		p.Datas[i].Cons = slices.Clone(d.Cons)
		for j, c := range d.Cons {
			p.Datas[i].Cons[j].Fields = slices.Clone(c.Fields)
		}
	}
	return p
}

// TestOwnersCheck: Check changes nothing, and answers the same again (R1, R4).
func TestOwnersCheck(t *testing.T) {
	m := maker{dice: 9}
	for range 300 {
		m.declare()
		m.Body = m.term(4)
		m.spoil(&m.Body)
		kept := copiedProgram(m.Program)
		at, err := scope.Check(m.Program)
		if !reflect.DeepEqual(m.Program, kept) {
			t.Fatalf("%+v became %+v", kept, m.Program)
		}
		wantCheck(t, "again", m.Program, at, err)
		wantCheck(t, "another one in between", read(t, "fun x -> x"), 0, api.OK)
		wantCheck(t, "and again", kept, at, err)
	}
}
