package rewrite_test

import (
	"fmt"
	"slices"
	"strings"
	"testing"

	"brocade/api"
	"brocade/names"
	"brocade/rewrite"
	"brocade/source"
)

// dice are numbers that are the same in each run.
type dice uint32

func (d *dice) under(n int) int {
	*d = *d*1664525 + 1013904223
	return int(uint32(*d)>>8) % n
}

func pick[A any](d *dice, l []A) A { return l[d.under(len(l))] }

func (d *dice) name() string { return pick(d, []string{"x", "y", "z", "k", "_"}) }

// typ makes up a type, with lists.
func (d *dice) typ() api.Type {
	whole := api.Type{Kind: api.TypInt}
	return pick(d, []api.Type{{}, whole, {Kind: api.TypRef, Args: []api.Type{whole}}, {Kind: api.TypFun, Args: []api.Type{whole, whole}, Row: d.row()}})
}

func (d *dice) row() api.Row {
	return api.Row{Labels: pick(d, [][]string{nil, {"console"}, {"E", "console"}}), Var: d.under(3)}
}

// term makes up a term that has what its kind has; its names may be bound or not.
func (d *dice) term(size int) api.Term {
	t := d.bare(size)
	t.At, t.Type, t.Row = d.under(100), d.typ(), d.row()
	if t.Kind == api.TermRec {
		t.Own = d.typ()
	}
	return t
}

func (d *dice) bare(size int) api.Term {
	if size <= 0 {
		return d.leaf()
	}
	kid := func() api.Term { return d.term(size - 1 - d.under(2)) }
	switch d.under(13) {
	case 0, 1:
		return fun(d.name(), kid())
	case 2, 3:
		return app(kid(), kid())
	case 4:
		return let(d.name(), kid(), kid())
	case 5, 6:
		return rec(d.name(), d.name(), kid(), kid())
	case 7:
		return api.Term{Kind: api.TermIf, Kids: []api.Term{kid(), kid(), kid()}}
	case 8:
		return api.Term{Kind: api.TermOp, Name: pick(d, []string{"+", "<", ":="}), Kids: []api.Term{kid(), kid()}}
	case 9:
		return api.Term{Kind: api.TermOp, Name: pick(d, []string{"print", "ref", "!"}), Kids: []api.Term{kid()}}
	case 10:
		return pair(kid(), kid())
	case 11:
		return match(kid(), arm("Nil", kid()), arm("Pair", kid(), d.name(), d.name()))
	}
	return d.asked(kid)
}

// asked makes up an operation or a handler.
func (d *dice) asked(kid func() api.Term) api.Term {
	if d.under(3) == 0 {
		return api.Term{Kind: api.TermDo, Name: "ask", Kids: []api.Term{kid()}}
	}
	t := api.Term{Kind: api.TermHandle, Name: "E", Kids: []api.Term{kid()}, Arms: []api.Arm{arm("return", kid(), d.name())}}
	for _, op := range []string{"ask", "tell"} {
		t.Arms = append(t.Arms, arm(op, kid(), d.name(), d.name()))
	}
	return t
}

func (d *dice) leaf() api.Term {
	switch d.under(10) {
	case 0, 1:
		return api.Term{Kind: api.TermInt, N: d.under(9)}
	case 2:
		return api.Term{Kind: api.TermBool, N: d.under(2)}
	case 3:
		return pick(d, []api.Term{{Kind: api.TermOp, Name: "read"}, {Kind: api.TermCon, Name: "Nil"}, {Kind: api.TermUnit}})
	}
	return variable(d.name())
}

// copied is a term with lists of its own.
func copied(t api.Term) api.Term {
	t.Kids, t.Arms, t.Row.Labels = slices.Clone(t.Kids), slices.Clone(t.Arms), slices.Clone(t.Row.Labels)
	for n := range t.Arms {
		t.Arms[n].Vars = slices.Clone(t.Arms[n].Vars)
	}
	for _, place := range places(&t) {
		*place = copied(*place)
	}
	return t
}

// TestMadeApart holds Apart of made-up terms against the slow way.
func TestMadeApart(t *testing.T) {
	luck := dice(1)
	for n := range 20000 {
		term := luck.term(n % 7)
		want(t, term, rewrite.Apart(term), slowApart(term))
	}
}

// TestMadeApartNames: no name is bound twice, nor bound and free, and they are numbered in order.
func TestMadeApartNames(t *testing.T) {
	luck := dice(2)
	most := 0
	for n := range 5000 {
		term := luck.term(n % 8)
		apart := rewrite.Apart(term)
		were, _ := stands(term)
		bound, variables := stands(apart)
		for n, name := range bound {
			want(t, term, name, fmt.Sprintf("%s'%d", were[n], n+1))
		}
		for _, name := range variables {
			if strings.Contains(name, "'") != slices.Contains(bound, name) {
				t.Errorf("%+v: %s", term, name)
			}
		}
		want(t, term, len(bound), len(were))
		most = max(most, len(bound))
	}
	if most < 100 {
		t.Errorf("at most %d names", most)
	}
}

// TestMadeApartStays: but for the numbers all stays as it was.
func TestMadeApartStays(t *testing.T) {
	luck := dice(3)
	for n := range 5000 {
		term := luck.term(n % 7)
		apart := rewrite.Apart(term)
		for _, at := range within(&apart) {
			at.Name, _, _ = strings.Cut(at.Name, "'")
			at.Param, _, _ = strings.Cut(at.Param, "'")
			for a := range at.Arms {
				for v := range at.Arms[a].Vars {
					at.Arms[a].Vars[v], _, _ = strings.Cut(at.Arms[a].Vars[v], "'")
				}
			}
		}
		want(t, term, apart, term)
	}
}

// TestMadeApartFree: the same names are free, as often.
func TestMadeApartFree(t *testing.T) {
	luck := dice(4)
	nobody := 0
	for n := range 5000 {
		term := luck.term(n % 7)
		apart := rewrite.Apart(term)
		want(t, term, names.Free(apart), names.Free(term))
		for _, name := range []string{"x", "y", "z", "k", "_"} {
			want(t, term, names.Uses(apart, name), names.Uses(term, name))
		}
		if names.Uses(term, "_") > 0 {
			nobody++
		}
	}
	if nobody < 500 {
		t.Errorf("%d terms with a variable _", nobody)
	}
}

// TestMadeApartRuns: a program without variables `_` runs as it did, step by step. (By source.Run `_` has a value, like
// other names; so those would be stuck, once they are free.)
func TestMadeApartRuns(t *testing.T) {
	luck := dice(5)
	ends := map[int]int{}
	for n := range 30000 {
		term := luck.term(n % 7)
		for _, name := range []string{"x", "y", "z", "k", "_"} {
			is := pick(&luck, []api.Term{{Kind: api.TermInt, N: luck.under(3)}, fun("x", variable("x")), pair(luck.leaf(), luck.leaf()), fun("y", luck.leaf())})
			term = let(name, is, term)
		}
		luck.somebody(&term)
		input, fuel := []int{3, 1, 4}[:luck.under(4)], pick(&luck, []int{20, 50, 300})
		was := source.Run(api.Program{Body: term}, input, fuel)
		want(t, term, source.Run(api.Program{Body: rewrite.Apart(term)}, input, fuel), was)
		ends[was.Outcome.Kind]++
	}
	for kind, least := range map[int]int{api.OutValue: 3000, api.OutMore: 1000, api.OutInput: 300, api.OutStuck: 3000} {
		if ends[kind] < least {
			t.Errorf("%d ended as %d", ends[kind], kind)
		}
	}
}

// somebody gives variables `_` other names.
func (d *dice) somebody(t *api.Term) {
	for _, at := range within(t) {
		for at.Kind == api.TermVar && at.Name == "_" {
			at.Name = d.name()
		}
	}
}

// TestMadeAlike: a term, Apart of it, and Apart of that, are alike.
func TestMadeAlike(t *testing.T) {
	luck := dice(6)
	for n := range 5000 {
		term := luck.term(n % 7)
		apart := rewrite.Apart(term)
		wantAlike(t, term, term, apart, true)
		wantAlike(t, term, term, rewrite.Apart(apart), true)
		wantAlike(t, term, term, bare(term), true)
	}
}

// bare is a term without At and what was inferred.
func bare(t api.Term) api.Term {
	t = copied(t)
	for _, at := range within(&t) {
		at.At, at.Type, at.Row, at.Own = 0, api.Type{}, api.Row{}, api.Type{}
	}
	return t
}

// TestMadePairs holds Alike against the slow way: of terms in which some names are others, and of such as are spoilt.
func TestMadePairs(t *testing.T) {
	luck := dice(7)
	fine, wrong := 0, 0
	for n := range 40000 {
		a := luck.term(n % 6)
		b := copied(a)
		luck.rename(&b)
		if luck.under(4) == 0 {
			luck.spoil(&b)
		}
		alike := nameless(a) == nameless(b)
		want(t, []any{a, b}, []bool{rewrite.Alike(a, b), rewrite.Alike(b, a)}, []bool{alike, alike})
		if alike {
			fine++
		} else {
			wrong++
		}
	}
	if fine < 10000 || wrong < 10000 {
		t.Errorf("%d pairs are alike, %d are not", fine, wrong)
	}
}

// rename gives some names that a term binds, and that are used there, other names.
func (d *dice) rename(t *api.Term) {
	all := within(t)
	for range d.under(3) {
		was, is := d.name(), d.name()
		for _, at := range within(pick(d, all)) {
			swap := func(name *string) {
				if *name == was {
					*name = is
				} else if *name == is {
					*name = was
				}
			}
			switch at.Kind {
			case api.TermVar, api.TermFun, api.TermLet, api.TermRec:
				swap(&at.Name)
				swap(&at.Param)
			}
			for a := range at.Arms {
				for v := range at.Arms[a].Vars {
					swap(&at.Arms[a].Vars[v])
				}
			}
		}
	}
}

// spoil makes one place of a term another one.
func (d *dice) spoil(t *api.Term) {
	at := pick(d, within(t))
	switch d.under(6) {
	case 0:
		at.Name = d.name()
	case 1:
		at.Param = d.name()
	case 2:
		at.N = d.under(3)
	case 3:
		at.Kind = 1 + d.under(14)
	case 4:
		*at = d.leaf()
	case 5:
		if len(at.Arms) > 0 {
			pick(d, places(at)[len(at.Kids):]).Name = d.name()
			at.Arms[d.under(len(at.Arms))].Name = "other"
		}
	}
}

// TestMadeAround: terms around terms that are alike, and that are not.
func TestMadeAround(t *testing.T) {
	luck := dice(8)
	for n := range 3000 {
		a := luck.term(n % 5)
		b, c := rewrite.Apart(a), luck.term(n%5)
		same := nameless(a) == nameless(c)
		want(t, "fun", rewrite.Alike(fun("none", a), fun("nobody", b)), true)
		want(t, "app", []bool{rewrite.Alike(app(a, c), app(b, c)), rewrite.Alike(app(a, b), app(c, b)), rewrite.Alike(app(b, a), app(b, c))}, []bool{true, same, same})
		want(t, "nobody", []bool{rewrite.Alike(fun("_", a), fun("none", a)), rewrite.Alike(fun("_", a), fun("none", c))}, []bool{true, same})
		for _, name := range []string{"x", "y", "z", "k"} {
			want(t, "let", rewrite.Alike(let(name, b, a), let(name, a, a)), true)
			want(t, "other", rewrite.Alike(fun(name, a), fun("none", a)), names.Uses(a, name) == 0)
			want(t, "arm", rewrite.Alike(match(a, arm("A", a, name)), match(b, arm("A", b, "none"))), names.Uses(a, name) == 0)
			want(t, "rec", rewrite.Alike(rec(name, "none", a, c), rec("nobody", name, a, c)), names.Uses(a, name) == 0 && names.Uses(c, name) == 0)
		}
	}
}

// TestSmall has all pairs of terms of few parts.
func TestSmall(t *testing.T) {
	terms := []api.Term{variable("x"), variable("y"), variable("_")}
	for range 2 {
		some := slices.Clone(terms)
		for _, body := range some {
			for _, name := range []string{"x", "y", "_"} {
				terms = append(terms, fun(name, body))
			}
		}
		if len(some) > 3 {
			break
		}
		for _, a := range some {
			for _, b := range some {
				terms = append(terms, pair(a, b))
				for _, name := range []string{"x", "y"} {
					terms = append(terms, let(name, a, b), match(a, arm("A", b, name)))
				}
				terms = append(terms, rec("x", "x", a, b), rec("x", "y", a, b), rec("y", "x", a, b))
			}
		}
	}
	texts := make([]string, len(terms))
	for n, term := range terms {
		texts[n] = nameless(term)
		want(t, term, rewrite.Apart(term), slowApart(term))
	}
	for n, a := range terms {
		for m, b := range terms {
			if rewrite.Alike(a, b) != (texts[n] == texts[m]) {
				t.Errorf("%s and %s: not %v", text(a), text(b), texts[n] == texts[m])
			}
		}
	}
	if len(terms) < 300 {
		t.Errorf("%d terms", len(terms))
	}
}

// TestAllForms has all kinds with all sorts of parts, right or not.
func TestAllForms(t *testing.T) {
	parts := []api.Term{variable("x"), fun("x", variable("y")), {Kind: 99, Name: "x"}}
	for kind := -1; kind < 17; kind++ {
		for kids := range 4 {
			for arms := range 3 {
				for _, part := range parts {
					term := api.Term{Kind: kind, Name: "x", Param: "y", N: -1, Kids: slices.Repeat([]api.Term{part}, kids)[:kids:kids], Row: api.Row{Var: -1}}
					if kids == 0 {
						term.Kids = nil
					}
					for n := range arms {
						term.Arms = append(term.Arms, arm("k", part, []string{"x", "y", "x"}[:3*n]...))
					}
					around := fun("y", rec("x", "z", term, term))
					for _, one := range []api.Term{term, around} {
						apart := rewrite.Apart(one)
						want(t, one, nilled(apart), nilled(slowApart(one)))
						wantAlike(t, one, one, apart, true)
						wantAlike(t, one, one, pair(one, one), false)
					}
				}
			}
		}
	}
}

// nilled is a term whose lists without items are nil.
func nilled(t api.Term) api.Term {
	t = copied(t)
	for _, at := range within(&t) {
		for a := range at.Arms {
			if len(at.Arms[a].Vars) == 0 {
				at.Arms[a].Vars = nil
			}
		}
	}
	return t
}

// TestSame: the same calls have the same answers (R4), whichever others were in between.
func TestSame(t *testing.T) {
	luck := dice(9)
	for range 300 {
		term, other := luck.term(6), luck.term(6)
		apart, alike := rewrite.Apart(term), rewrite.Alike(term, other)
		for range 5 {
			rewrite.Apart(luck.term(4))
			rewrite.Alike(luck.term(3), luck.term(3))
			want(t, term, rewrite.Apart(copied(term)), apart)
			want(t, term, rewrite.Alike(copied(term), copied(other)), alike)
		}
	}
}
