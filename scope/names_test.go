package scope_test

import (
	"reflect"
	"testing"

	"brocade/api"
	"brocade/scope"
)

// twins declares each name twice, and is asked of what nobody checked.
func twins() api.Program {
	whole, truth, unit := api.Type{Kind: api.TypInt}, api.Type{Kind: api.TypBool}, api.Type{Kind: api.TypUnit}
	return api.Program{
		Effects: []api.Effect{
			{Name: "E", Ops: []api.OpSig{op("a", whole, truth), op("b", truth, whole), op("a", unit, unit)}},
			{Name: "F", Ops: []api.OpSig{op("b", unit, truth), op("c", whole, whole)}},
			{Name: "E", Ops: []api.OpSig{op("d", truth, truth), op("", unit, whole)}},
			{Name: "", Ops: nil},
		},
		Datas: []api.Data{
			{Name: "D", Cons: []api.ConSig{con("A"), con("B", whole, truth), con("A", unit)}},
			{Name: "D", Cons: []api.ConSig{con("B"), con("C", truth)}},
			{Name: "E", Cons: []api.ConSig{con("a"), con("", whole)}},
		},
	}
}

func want(t *testing.T, what string, got, want any) {
	t.Helper()
	if !reflect.DeepEqual(got, want) {
		t.Errorf("%s: %+v, not %+v", what, got, want)
	}
}

func TestEffect(t *testing.T) {
	p := twins()
	for _, x := range []struct {
		name       string
		effect, op int
	}{{"a", 0, 0}, {"b", 0, 1}, {"c", 1, 1}, {"d", 2, 0}, {"", 2, 1}} {
		effect, op, there := scope.Effect(p, x.name)
		want(t, x.name, effect, p.Effects[x.effect])
		want(t, x.name, op, p.Effects[x.effect].Ops[x.op])
		want(t, x.name, there, true)
	}
	for _, name := range []string{"A", "E", "D", "e", "aa", "return", "print", "_"} {
		effect, op, there := scope.Effect(p, name)
		want(t, name, effect, api.Effect{})
		want(t, name, op, api.OpSig{})
		want(t, name, there, false)
	}
}

func TestHandled(t *testing.T) {
	p := twins()
	for name, place := range map[string]int{"E": 0, "F": 1, "": 3} {
		effect, there := scope.Handled(p, name)
		want(t, name, len(effect.Ops), len(p.Effects[place].Ops))
		want(t, name, effect, p.Effects[place])
		want(t, name, there, true)
	}
	for _, name := range []string{"D", "a", "e", "EF", "console"} {
		effect, there := scope.Handled(p, name)
		want(t, name, effect, api.Effect{})
		want(t, name, there, false)
	}
}

func TestCon(t *testing.T) {
	p := twins()
	for _, x := range []struct {
		name      string
		data, con int
	}{{"A", 0, 0}, {"B", 0, 1}, {"C", 1, 1}, {"a", 2, 0}, {"", 2, 1}} {
		data, con, there := scope.Con(p, x.name)
		want(t, x.name, data, p.Datas[x.data])
		want(t, x.name, con, p.Datas[x.data].Cons[x.con])
		want(t, x.name, there, true)
	}
	for _, name := range []string{"D", "E", "b", "AA", "return"} {
		data, con, there := scope.Con(p, name)
		want(t, name, data, api.Data{})
		want(t, name, con, api.ConSig{})
		want(t, name, there, false)
	}
}

// TestNothing: of a program without declarations there is nothing.
func TestNothing(t *testing.T) {
	for _, name := range []string{"", "x", "X"} {
		effect, op, there := scope.Effect(api.Program{}, name)
		want(t, name, []any{effect, op, there}, []any{api.Effect{}, api.OpSig{}, false})
		effect, there = scope.Handled(api.Program{}, name)
		want(t, name, []any{effect, there}, []any{api.Effect{}, false})
		data, con, there := scope.Con(api.Program{}, name)
		want(t, name, []any{data, con, there}, []any{api.Data{}, api.ConSig{}, false})
	}
	wantCheck(t, "nothing", api.Program{}, 0, api.ErrScope)
	wantCheck(t, "unit", api.Program{Body: api.Term{Kind: api.TermUnit, At: 5}}, 0, api.OK)
}

func TestPrims(t *testing.T) {
	counts := map[string]int{"+": 2, "-": 2, "*": 2, "/": 2, "<": 2, "=": 2, ":=": 2, "print": 1, "ref": 1, "!": 1, "read": 0}
	for name, count := range counts {
		got, there := scope.Prims(name)
		want(t, name, []any{got, there}, []any{count, true})
	}
	for _, name := range []string{"", "x", ">", "==", ":", "->", "!!", "+ ", " +", "Print", "read ()", "READ", "++", "<=", "prin", "fun", "return"} {
		got, there := scope.Prims(name)
		want(t, name, []any{got, there}, []any{0, false})
	}
}
