package check_test

import (
	"testing"

	"brocade/api"
	"brocade/check"
)

// refs is a type of so many levels.
func refs(levels int) api.Type {
	t := kind(api.TypInt)
	for range levels - 1 {
		t = ref(t)
	}
	return t
}

// doubled is a type of so many levels, in which all that stands below stands twice, in one list.
func doubled(inmost api.Type, levels int) api.Type {
	for range levels - 1 {
		inmost.Args = []api.Type{inmost, inmost}
		inmost.Kind, inmost.Var = api.TypFun, 0
	}
	return inmost
}

// wrongTypes are types that are not right, of all sorts.
func wrongTypes() map[string]api.Type {
	labels := func(r api.Row) api.Type { return fun(kind(api.TypInt), r, kind(api.TypInt)) }
	self := ref(kind(api.TypInt))
	self.Args[0] = self
	both := fun(kind(api.TypInt), api.Row{}, kind(api.TypInt))
	both.Args[0], both.Args[1] = both, both
	return map[string]api.Type{
		"nothing": {}, "a kind that there is not": {Kind: 8}, "a variable 0": variable(0), "a variable -1": variable(-1), "a data without a name": data(""),
		"an int with a name": {Kind: api.TypInt, Name: "int"}, "a bool with a variable": {Kind: api.TypBool, Var: 1}, "a unit with a row": {Kind: api.TypUnit, Row: row(1)},
		"a data with Args": {Kind: api.TypData, Name: "L", Args: []api.Type{{Kind: api.TypInt}}}, "a ref of none": {Kind: api.TypRef}, "a ref of two": {Kind: api.TypRef, Args: []api.Type{{Kind: api.TypInt}, {Kind: api.TypInt}}},
		"a function of none": {Kind: api.TypFun}, "a function of one": {Kind: api.TypFun, Args: []api.Type{{Kind: api.TypInt}}}, "a ref of nothing": ref(api.Type{}),
		"unsorted labels": labels(row(0, "console", "E")), "an empty label": labels(row(0, "")), "a row variable below 0": labels(row(-1)), "unsorted far within": ref(ref(labels(row(1, "F", "E")))),
		"too deep": refs(201), "too deep and wide": doubled(kind(api.TypInt), 201), "within itself": self, "twice within itself": both,
	}
}

// TestWrongTypes has types that are not right, and on which nevertheless all agree: the first term at which one stands is wrong.
func TestWrongTypes(t *testing.T) {
	for name, wrong := range wrongTypes() {
		p := typed(t, "let _ = (fun x -> x) 1 in 2")
		places := within(&p.Body) // let, application, function, x, 1, 2
		places[1].Type, places[2].Type, places[3].Type, places[4].Type = wrong, fun(wrong, row(0, "console"), wrong), wrong, wrong
		wantCheck(t, name, p, 101, api.ErrType)

		p = typed(t, "rec f x = f x in 1")
		places = within(&p.Body) // rec, application, f, x, 1
		own := fun(wrong, row(1), kind(api.TypUnit))
		places[0].Own, places[1].Type, places[2].Type, places[3].Type = own, kind(api.TypUnit), own, wrong
		wantCheck(t, name, p, 100, api.ErrType)

		p = typed(t, "(fun x -> 1) (rec f u = f u in f ())")
		places = within(&p.Body) // application, function, 1, rec, application, f, u, application, f, ()
		unit := kind(api.TypUnit)
		f := fun(unit, row(0, "console"), wrong)
		places[1].Type, places[3].Type, places[3].Own, places[4].Type, places[5].Type = fun(wrong, row(0, "console"), kind(api.TypInt)), wrong, f, wrong, f
		places[6].Type, places[7].Type, places[8].Type = unit, wrong, f
		for _, at := range places[4:] {
			at.Row = row(0, "console")
		}
		wantCheck(t, name, p, 101, api.ErrType)

		for _, source := range []string{"1", "true", "()", "Nil", "fun x -> x", "let x = 1 in x", "rec f x = x in f", "(fun x -> x) 1", "if true then 1 else 2", "ref 1", "! ref 1", "match Nil { Nil -> 1; Cons x y -> 2 }", "handle None 1 { return x -> x }"} {
			p = typed(t, source)
			p.Body.Type = wrong
			wantCheck(t, name+" at "+source, p, 100, api.ErrType)
			p = typed(t, "fun x -> "+source)
			for i, at := range within(&p.Body) {
				kept := *at
				at.Type = wrong
				if _, err := check.Check(p); err != api.ErrType {
					t.Errorf("%s at %d of %s: %v", name, i, source, err)
				}
				*at = kept
			}
			wantCheck(t, source, p, 0, api.OK)
		}
	}
}

// TestWrongRows has rows that are not right, and on which nevertheless all agree: the first term at which one stands
// is wrong, whatever is wrong within it.
func TestWrongRows(t *testing.T) {
	for _, wrong := range []api.Row{row(-1), row(0, ""), row(0, "console", "E"), row(5, "F", "E"), row(-7, "console")} {
		p := typed(t, "let _ = 1 in true")
		places := within(&p.Body)
		for _, at := range places {
			at.Row = wrong
		}
		places[1].Type = kind(api.TypUnit)
		wantCheck(t, wrong, p, 100, api.ErrType)

		p = typed(t, "rec f x = 1 in true")
		places = within(&p.Body)
		places[0].Own.Row, places[1].Row = wrong, wrong
		wantCheck(t, wrong, p, 100, api.ErrType)
	}
}

// TestOwn: what stands as Own at terms that are no TermRec does not matter.
func TestOwn(t *testing.T) {
	for name, wrong := range wrongTypes() {
		p := typed(t, "rec f x = match x { Nil -> if true then 1 else e! (); Cons x y -> (fun u -> u) 1 + 2 } in handle E f Nil { return x -> x; e x k -> k (! ref 1); tell x k -> let z = One(true) in k () }")
		for _, at := range within(&p.Body) {
			if at.Kind != api.TermRec {
				at.Own = wrong
			}
		}
		wantCheck(t, name, p, 0, api.OK)
	}
}

// TestEmptyLists: a list without items is nil or empty.
func TestEmptyLists(t *testing.T) {
	p := typed(t, "let f = fun x -> match Nil { Nil -> x; Cons _ _ -> x } in rec g x = 1 in f 1")
	for _, at := range within(&p.Body) {
		at.Type, at.Own = emptied(at.Type), emptied(at.Own)
		at.Row.Labels = append([]string{}, at.Row.Labels...)
		if len(at.Kids) == 0 {
			at.Kids = []api.Term{}
		}
		if len(at.Arms) == 0 {
			at.Arms = []api.Arm{}
		}
	}
	wantCheck(t, "empty", p, 0, api.OK)
}

// emptied is a type with empty lists in the stead of those that are not there.
func emptied(t api.Type) api.Type {
	t.Args, t.Row.Labels = append([]api.Type{}, t.Args...), append([]string{}, t.Row.Labels...)
	for i := range t.Args {
		t.Args[i] = emptied(t.Args[i])
	}
	return t
}

// TestDeepTypes: types are right up to 200 levels, and how many pieces they are does not matter.
func TestDeepTypes(t *testing.T) {
	p := typed(t, "fun x -> ref x")
	places := within(&p.Body) // function, ref, x
	for levels := 190; levels < 203; levels++ {
		held := refs(levels - 2)
		places[0].Type, places[1].Type, places[2].Type = fun(held, row(1), ref(held)), ref(held), held
		if levels <= 200 {
			wantCheck(t, levels, p, 0, api.OK)
		} else {
			wantCheck(t, levels, p, 100, api.ErrType)
		}
	}
	p = typed(t, "let x = 1 in 2") // of which the first one is deeper and deeper
	for levels := 2; levels < 203; levels++ {
		x := p.Body.Kids[0]
		x.Type = refs(levels - 1)
		p.Body.Kids[0] = api.Term{Kind: api.TermOp, Name: "ref", At: levels, Type: refs(levels), Row: row(0, "console"), Kids: []api.Term{x}}
		if levels <= 200 {
			wantCheck(t, levels, p, 0, api.OK)
		} else {
			wantCheck(t, levels, p, levels, api.ErrType)
		}
	}
}

// TestDeepResumption: the function from what an operation answers to a handler's type may be too deep to be right;
// that does not matter, unless it stands at a term.
func TestDeepResumption(t *testing.T) {
	for _, used := range []bool{false, true} {
		source := "let y = ref 1 in handle F 1 { return x -> y; f x k -> y }"
		if used {
			source = "let y = ref 1 in handle F 1 { return x -> y; f x k -> let _ = k in y }"
		}
		for levels := 198; levels <= 201; levels++ {
			p := typed(t, source)
			is := api.Term{Kind: api.TermInt, Type: kind(api.TypInt), Row: row(0, "console")}
			for n := 2; n <= levels; n++ {
				is = api.Term{Kind: api.TermOp, Name: "ref", Type: refs(n), Row: is.Row, Kids: []api.Term{is}}
			}
			p.Body.Kids[0] = is
			number(&p)
			k := 0
			for _, at := range within(&p.Body) {
				switch {
				case at.Name == "k":
					at.Type, k = fun(kind(api.TypBool), row(0, "console"), refs(levels)), at.At
				case at.Name == "y" || at.Kind == api.TermHandle || at.Name == "_":
					at.Type = refs(levels)
				}
			}
			switch {
			case levels == 201:
				wantCheck(t, "too deep", p, 100, api.ErrType)
			case levels == 200 && used:
				wantCheck(t, "used", p, k, api.ErrType)
			default:
				wantCheck(t, "not too deep", p, 0, api.OK)
			}
		}
	}
}

// TestManyPieces has types that are more pieces than anyone could count: they are the same, or not, all the same.
func TestManyPieces(t *testing.T) {
	whole, truth := doubled(kind(api.TypInt), 198), doubled(kind(api.TypBool), 198)
	again := doubled(kind(api.TypInt), 198)
	p := typed(t, "fun x -> let y = x in y")
	places := within(&p.Body) // function, let, x, y
	for _, is := range []api.Type{whole, truth, doubled(variable(3), 198), refs(198)} {
		places[0].Type, places[1].Type, places[2].Type, places[3].Type = fun(is, row(1), is), is, is, is
		wantCheck(t, "the same", p, 0, api.OK)
	}
	places[0].Type, places[1].Type, places[2].Type, places[3].Type = fun(whole, row(1), again), again, whole, again
	wantCheck(t, "the same, twice", p, 0, api.OK)
	places[0].Type, places[1].Type, places[3].Type = fun(whole, row(1), truth), truth, truth
	wantCheck(t, "not the same", p, 103, api.ErrType)

	p = typed(t, "let f = fun x -> x in f")
	places = within(&p.Body) // let, function, x, f
	open := doubled(variable(3), 198)
	places[1].Type, places[2].Type, places[2].Row = fun(open, row(1), open), open, row(1)
	places[0].Type, places[3].Type = fun(whole, row(2, "E"), again), fun(again, row(2, "E"), whole)
	wantCheck(t, "an instance", p, 0, api.OK)
	places[0].Type, places[3].Type = fun(whole, row(2, "E"), truth), fun(whole, row(2, "E"), truth)
	wantCheck(t, "no instance", p, 103, api.ErrType)
}

// TestSpoiltForm has made up programs in which kinds, names, kids and arms are spoilt, too: no call panics.
func TestSpoiltForm(t *testing.T) {
	m := newMaker(t, 6)
	answers := map[api.Errno]int{}
	for range 3000 {
		p := m.whole(1 + m.under(3))
		if len(within(&p.Body)) > 200 {
			continue
		}
		p.Body = own(p.Body)
		at := pick(&m.dice, within(&p.Body))
		switch m.under(7) {
		case 0:
			at.Kind = m.under(17) - 1
		case 1:
			at.Name = pick(&m.dice, []string{"", "x", "f", "_", "+", "read", "E", "Cons", "e", "return"})
		case 2:
			at.Kids = at.Kids[:len(at.Kids)/2]
		case 3:
			at.Kids = append(at.Kids, api.Term{})
		case 4:
			at.Arms = at.Arms[:len(at.Arms)/2]
		case 5:
			at.Arms = append(at.Arms, api.Arm{Name: "return", Vars: []string{"x"}})
		default:
			*at = own(*pick(&m.dice, within(&p.Body)))
		}
		answers[wantSlow(t, p)]++
		wantErased(t, source(p), p)
	}
	if answers[api.OK] < 50 || answers[api.ErrScope] < 500 || answers[api.ErrType] < 300 {
		t.Errorf("%v", answers)
	}
}
