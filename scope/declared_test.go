package scope_test

import (
	"strconv"
	"testing"

	"brocade/api"
)

// TestDeclarations has declarations ahead of a body in which something is wrong, too: what is wrong with them is first.
func TestDeclarations(t *testing.T) {
	for _, x := range []struct {
		declarations string
		fine         bool
	}{
		{"", true}, {"effect E { }", true}, {"data D { }", true}, {"effect E { } data E { }", true}, {"effect E { } effect F { } data D { } data C { }", true},
		{"effect E { } effect E { }", false}, {"effect E { } effect F { } effect E { }", false}, {"data D { } data D { }", false}, {"data D { } data C { } effect D { } data D { }", false},
		{"effect E { a : int -> int ; b : bool -> unit }", true}, {"effect E { a : int -> int ; a : int -> int }", false}, {"effect E { a : int -> int } effect F { a : bool -> unit }", false},
		{"effect E { a : int -> int ; b : int -> int } effect F { c : int -> int ; b : int -> int }", false},
		{"data D { A ; B int }", true}, {"data D { A ; A int }", false}, {"data D { A } data E { A }", false}, {"data D { A ; B } data E { C ; B }", false},
		{"data D { D } data E { E } effect D { }", true}, {"data D { E } data E { D } effect A { a : E -> D }", true},
		{"effect E { a : D -> int } data D { }", true}, {"effect E { a : int -> D } data D { }", true}, {"data D { A D } data E { B D E F } data F { }", true},
		{"effect E { a : D -> int }", false}, {"effect E { a : int -> D }", false}, {"effect E { a : E -> int }", false}, {"data D { A C }", false}, {"data D { A A }", false},
		{"data D { A int bool unit D ; B int bool unit E }", false}, {"effect E { a : int -> int ; b : int -> int ; c : int -> E }", false}, {"effect E { } data D { A E }", false},
		{"effect Console { } data Console { }", true},
	} {
		p := read(t, x.declarations+" x")
		if x.fine {
			wantCheck(t, x.declarations, p, p.Body.At, api.ErrScope)
			p.Body = api.Term{Kind: api.TermUnit, At: 9}
			wantCheck(t, x.declarations, p, 0, api.OK)
		} else {
			wantCheck(t, x.declarations, p, 0, api.ErrScope)
		}
		wantSlow(t, p)
	}
}

// whole is a program with a name of each sort; whoever asks gets a new one.
func whole(t *testing.T) api.Program {
	return read(t, "effect E { a : int -> D ; b : D -> unit } effect F { c : bool -> C } data D { A int D ; B } data C { X C bool } ()")
}

// TestDeclaredNames puts names into each place where one is declared.
func TestDeclaredNames(t *testing.T) {
	for i, put := range []func(p *api.Program, name string){
		func(p *api.Program, name string) { p.Effects[0].Name = name },
		func(p *api.Program, name string) { p.Effects[1].Name = name },
		func(p *api.Program, name string) { p.Effects[0].Ops[0].Name = name },
		func(p *api.Program, name string) { p.Effects[0].Ops[1].Name = name },
		func(p *api.Program, name string) { p.Effects[1].Ops[0].Name = name },
		func(p *api.Program, name string) { p.Datas[0].Cons[0].Name = name },
		func(p *api.Program, name string) { p.Datas[0].Cons[1].Name = name },
		func(p *api.Program, name string) { p.Datas[1].Cons[0].Name = name },
		func(p *api.Program, name string) {
			p.Datas[1].Name, p.Effects[1].Ops[0].Res.Name, p.Datas[1].Cons[0].Fields[0].Name = name, name, name
		},
		func(p *api.Program, name string) {
			p.Datas[0].Name, p.Effects[0].Ops[0].Res.Name, p.Effects[0].Ops[1].Arg.Name, p.Datas[0].Cons[0].Fields[1].Name = name, name, name, name
		},
	} {
		for _, name := range []string{"", "console", "E", "F", "a", "b", "c", "A", "B", "C", "D", "X", "_", "return", "new", "1 !", "\xff"} {
			p := whole(t)
			put(&p, name)
			wantSlow(t, p)
			switch {
			case name == "":
				wantCheck(t, i, p, 0, api.ErrScope)
			case name == "new", name == "1 !", name == "_", name == "return":
				wantCheck(t, i, p, 0, api.OK)
			}
		}
		p := whole(t)
		put(&p, "console")
		if i < 2 || i > 7 {
			wantCheck(t, i, p, 0, api.ErrScope)
		} else {
			wantCheck(t, i, p, 0, api.OK)
		}
	}
}

// declaredTypes are the places of types in a whole program.
func declaredTypes(p *api.Program) []*api.Type {
	return []*api.Type{
		&p.Effects[0].Ops[0].Arg, &p.Effects[0].Ops[0].Res, &p.Effects[0].Ops[1].Arg, &p.Effects[0].Ops[1].Res, &p.Effects[1].Ops[0].Arg, &p.Effects[1].Ops[0].Res,
		&p.Datas[0].Cons[0].Fields[0], &p.Datas[0].Cons[0].Fields[1], &p.Datas[1].Cons[0].Fields[0], &p.Datas[1].Cons[0].Fields[1],
	}
}

// TestDeclaredTypes puts types of all sorts into each place of one.
func TestDeclaredTypes(t *testing.T) {
	p := whole(t)
	for _, place := range declaredTypes(&p) {
		fine, kept := 0, *place
		for kind := -1; kind <= 9; kind++ {
			for _, name := range []string{"", "D", "C", "E", "A", "int", "console"} {
				for _, number := range []int{0, 1, -1} {
					for _, args := range [][]api.Type{nil, {}, {{Kind: api.TypInt}}, {{Kind: api.TypInt}, {Kind: api.TypInt}}} {
						for _, row := range []api.Row{{}, {Labels: []string{}}, {Labels: []string{"E"}}, {Var: 1}, {Labels: []string{"E"}, Var: -1}} {
							*place = api.Type{Kind: kind, Name: name, Var: number, Args: args, Row: row}
							wantSlow(t, p)
							if _, err := slowCheck(p); err == api.OK {
								fine++
							}
						}
					}
				}
			}
		}
		if fine != 5*2*2 { // int, bool, unit, D and C, each with lists that are nil or empty
			t.Errorf("%v: %d types are fine", kept, fine)
		}
		*place = kept
	}
}

// TestSharedLists: declarations that have one list together have its names twice.
func TestSharedLists(t *testing.T) {
	p := whole(t)
	p.Effects[1].Ops = p.Effects[0].Ops
	wantCheck(t, "operations", p, 0, api.ErrScope)
	p.Effects[1].Ops = p.Effects[0].Ops[1:]
	wantCheck(t, "some operations", p, 0, api.ErrScope)
	p.Effects[1].Ops = nil
	wantCheck(t, "no operations", p, 0, api.OK)
	p.Datas[1].Cons = p.Datas[0].Cons
	wantCheck(t, "constructors", p, 0, api.ErrScope)
	p.Datas[1].Cons = p.Datas[0].Cons[:1]
	wantCheck(t, "some constructors", p, 0, api.ErrScope)
	p.Datas[1].Cons = nil
	wantCheck(t, "no constructors", p, 0, api.OK)
}

// TestMany has as many effects as there may be, and more: that is ahead of all else that is wrong.
func TestMany(t *testing.T) {
	var p api.Program
	p.Body.Kind = api.TermUnit
	for n := range api.MaxLabels - 1 {
		number := strconv.Itoa(n)
		p.Effects = append(p.Effects, api.Effect{Name: "E" + number, Ops: []api.OpSig{op("o"+number, api.Type{Kind: api.TypInt}, api.Type{Kind: api.TypUnit})}})
		p.Datas = append(p.Datas, api.Data{Name: "D" + number, Cons: []api.ConSig{con("C" + number)}})
	}
	p.Datas = append(p.Datas, api.Data{Name: "more"}, api.Data{Name: "and more"})
	wantCheck(t, "65534", p, 0, api.OK)
	p.Body = api.Term{Kind: api.TermVar, Name: "x", At: 4}
	wantCheck(t, "65534 and x", p, 4, api.ErrScope)
	last := p.Effects[65533]
	p.Effects[65533].Name = "E0"
	wantCheck(t, "E0 twice", p, 0, api.ErrScope)
	p.Effects[65533] = last
	for _, name := range []string{"one more", "E0", "", "console"} {
		more := p
		more.Effects = append(p.Effects[:65534:65534], api.Effect{Name: name})
		wantCheck(t, name, more, 0, api.ErrLimit)
	}
	p.Effects[0] = api.Effect{}
	wantCheck(t, "an empty name", p, 0, api.ErrScope)
	p.Effects = append(p.Effects, api.Effect{Name: "one more"})
	wantCheck(t, "an empty name and one more", p, 0, api.ErrLimit)
}
