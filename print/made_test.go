package print_test

import (
	"math"
	"reflect"
	"testing"

	"brocade/api"
	"brocade/print"
)

// dice are numbers that are the same in each run.
type dice uint32

func (d *dice) under(n int) int {
	*d = *d*1664525 + 1013904223
	return int(uint32(*d)>>8) % n
}

func (d *dice) pick(texts ...string) string { return texts[d.under(len(texts))] }

func (d *dice) small() string { return d.pick("x", "y", "f", "_", "in1", "iff", "returns", "_0Z") }

func (d *dice) large() string { return d.pick("A", "B", "Cons", "E_1", "Z9") }

// some is a list of up to so many items, not always nil if there are none.
func some[A any](d *dice, most int, make func() A) []A {
	var l []A
	if d.under(2) == 0 {
		l = []A{}
	}
	for range d.under(most + 1) {
		l = append(l, make())
	}
	return l
}

func just[A any](count int, make func() A) []A {
	var l []A
	for range count {
		l = append(l, make())
	}
	return l
}

// anyType is a type that is not such as declarations have.
func (d *dice) anyType() api.Type {
	return api.Type{Kind: d.under(9), Name: d.pick("", "x", "%"), Var: d.under(3), Args: make([]api.Type, d.under(3)), Row: api.Row{Labels: []string{"%"}, Var: d.under(3)}}
}

func (d *dice) declType() api.Type {
	t := api.Type{Kind: api.TypInt + d.under(4)}
	if t.Kind == api.TypData {
		t.Name = d.large()
	}
	if d.under(3) == 0 {
		t.Args, t.Row.Labels = []api.Type{}, []string{}
	}
	return t
}

// term makes up a term that can be written, with an At, a Type, a Row and an Own of any sort.
func (d *dice) term(size int) api.Term {
	t := d.bareTerm(size)
	if d.under(2) == 0 {
		t.At, t.Type, t.Row, t.Own = d.under(9)-4, d.anyType(), d.anyType().Row, d.anyType()
	}
	if d.under(2) == 0 && t.Kids == nil {
		t.Kids = []api.Term{}
	}
	if d.under(2) == 0 && t.Arms == nil {
		t.Arms = []api.Arm{}
	}
	return t
}

func (d *dice) bareTerm(size int) api.Term {
	kid := func() api.Term { return d.term(size - 1) }
	kind := api.TermVar + d.under(api.TermHandle)
	if size <= 0 {
		kind = []int{api.TermVar, api.TermInt, api.TermBool, api.TermUnit, api.TermOp}[d.under(5)]
	}
	t := api.Term{Kind: kind}
	switch kind {
	case api.TermVar:
		t.Name = d.small()
	case api.TermInt:
		t.N = []int{0, 1, 42, math.MaxInt}[d.under(4)]
	case api.TermBool:
		t.N = d.under(2)
	case api.TermRec:
		t.Name, t.Param, t.Kids = d.small(), d.small(), just(2, kid)
	case api.TermFun, api.TermDo:
		t.Name, t.Kids = d.small(), just(1, kid)
	case api.TermLet:
		t.Name, t.Kids = d.small(), just(2, kid)
	case api.TermApp:
		t.Kids = just(2, kid)
	case api.TermIf:
		t.Kids = just(3, kid)
	case api.TermOp:
		t.Name, t.Kids = d.operator(size, kid)
	case api.TermCon:
		t.Name, t.Kids = d.large(), some(d, 3, kid)
	case api.TermMatch:
		t.Kids = just(1, kid)
		t.Arms = some(d, 3, func() api.Arm { return api.Arm{Name: d.large(), Vars: some(d, 3, d.small), Body: kid()} })
	case api.TermHandle:
		t.Name, t.Kids = d.large(), just(1, kid)
		t.Arms = some(d, 3, func() api.Arm { return api.Arm{Name: d.small(), Vars: just(2, d.small), Body: kid()} })
		t.Arms = append([]api.Arm{{Name: "return", Vars: just(1, d.small), Body: kid()}}, t.Arms...)
	}
	return t
}

func (d *dice) operator(size int, kid func() api.Term) (string, []api.Term) {
	kids := d.under(3)
	if size <= 0 {
		kids = 0
	}
	switch kids {
	case 2:
		return d.pick("+", "-", "*", "/", "<", "=", ":="), just(2, kid)
	case 1:
		return d.pick("print", "ref", "!"), just(1, kid)
	}
	return "read", nil
}

func (d *dice) program(size int) api.Program {
	return api.Program{
		Effects: some(d, 3, func() api.Effect {
			return api.Effect{Name: d.large(), Ops: some(d, 3, func() api.OpSig {
				return api.OpSig{Name: d.small(), Arg: d.declType(), Res: d.declType()}
			})}
		}),
		Datas: some(d, 3, func() api.Data {
			return api.Data{Name: d.large(), Cons: some(d, 3, func() api.ConSig {
				return api.ConSig{Name: d.large(), Fields: some(d, 3, d.declType)}
			})}
		}),
		Body: d.term(size),
	}
}

// TestMadePrograms holds Print against another way of writing, and reads what is written.
func TestMadePrograms(t *testing.T) {
	luck := dice(1)
	for range 4000 {
		p := luck.program(luck.under(6))
		wantText(t, p, slowProgram(p))
		if got, err := print.Term(p.Body); got != slowTerm(p.Body) || err != api.OK {
			t.Fatalf("%s and %v, not %s", got, err, slowTerm(p.Body))
		}
	}
}

// TestSmallTerms has each kind of terms in each place of each kind in each place of each kind.
func TestSmallTerms(t *testing.T) {
	inner := samples()
	for range 2 {
		var outer []api.Term
		for _, outside := range samples() {
			for place := range places(&outside) {
				for _, inside := range inner {
					around := bare(outside)
					*places(&around)[place] = inside
					wantText(t, api.Program{Body: around}, slowTerm(around))
					outer = append(outer, around)
				}
			}
		}
		inner = outer
	}
}

// TestOwners holds that what is handed in stays as it was, and that the same has the same answers (R1, R4).
func TestOwners(t *testing.T) {
	for seed := range 300 {
		mine, other := dice(seed), dice(seed)
		p, kept := mine.program(4), other.program(4)
		right := print.Right(p)
		first, err := print.Print(p)
		term, termErr := print.Term(p.Body)
		if !reflect.DeepEqual(p, kept) {
			t.Fatalf("%v became %v", kept, p)
		}
		again, againErr := print.Print(kept)
		termAgain, termAgainErr := print.Term(kept.Body)
		if again != first || againErr != err || termAgain != term || termAgainErr != termErr || print.Right(kept) != right {
			t.Fatalf("%s %v, then %s %v", first, err, again, againErr)
		}
	}
}
