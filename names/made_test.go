package names_test

import (
	"reflect"
	"slices"
	"testing"

	"brocade/api"
	"brocade/names"
	"brocade/parse"
	"brocade/scope"
)

// dice are numbers that are the same in each run.
type dice uint32

func (d *dice) under(n int) int {
	*d = *d*1664525 + 1013904223
	return int(uint32(*d)>>8) % n
}

func pick[A any](d *dice, l []A) A { return l[d.under(len(l))] }

func (d *dice) name() string { return pick(d, []string{"x", "y", "z", "k", "_"}) }

// unlike is two names that are not the same.
func (d *dice) unlike() (string, string) {
	a, b := d.name(), d.name()
	for a == b {
		b = d.name()
	}
	return a, b
}

// row makes up a row; most of them are not calm.
func (d *dice) row() api.Row {
	return api.Row{Labels: pick(d, [][]string{nil, {"console"}, {"E"}, {"E", "console"}, {"console", "console"}}), Var: d.under(2) * d.under(3)}
}

// term makes up a term that has what its kind has, by the declarations; its names may be bound or not.
func (d *dice) term(size int) api.Term {
	t := d.bare(size)
	t.Row = d.row()
	return t
}

func (d *dice) bare(size int) api.Term {
	if size <= 0 {
		return d.leaf()
	}
	kid := func() api.Term { return d.term(size - 1 - d.under(2)) }
	switch d.under(13) {
	case 0, 1:
		return fun(d.name(), kid())
	case 2:
		return app(kid(), kid())
	case 3, 4:
		return let(d.name(), kid(), kid())
	case 5, 6:
		return rec(d.name(), d.name(), kid(), kid())
	case 7:
		return api.Term{Kind: api.TermIf, Kids: []api.Term{kid(), kid(), kid()}}
	case 8:
		return plus(kid(), kid())
	case 9:
		return api.Term{Kind: api.TermCon, Name: "Cons", Kids: []api.Term{kid(), kid()}}
	case 10:
		a, b := d.unlike()
		return api.Term{Kind: api.TermMatch, Kids: []api.Term{kid()}, Arms: []api.Arm{arm("Nil", kid()), arm("Cons", kid(), a, b)}}
	case 11:
		return api.Term{Kind: api.TermDo, Name: "ask", Kids: []api.Term{kid()}}
	}
	t := api.Term{Kind: api.TermHandle, Name: "E", Kids: []api.Term{kid()}, Arms: []api.Arm{arm("return", kid(), d.name())}}
	for _, op := range []string{"ask", "tell"} {
		a, b := d.unlike()
		t.Arms = append(t.Arms, arm(op, kid(), a, b))
	}
	return t
}

func (d *dice) leaf() api.Term {
	switch d.under(8) {
	case 0:
		return api.Term{Kind: api.TermInt, N: d.under(9)}
	case 1:
		return api.Term{Kind: api.TermBool, N: d.under(2)}
	case 2:
		return pick(d, []api.Term{{Kind: api.TermOp, Name: "read"}, {Kind: api.TermCon, Name: "Nil"}, {Kind: api.TermUnit}})
	}
	return variable(d.name())
}

// within are all places of a term, its own first.
func within(t *api.Term) []*api.Term {
	out := []*api.Term{t}
	for _, place := range places(t) {
		out = append(out, within(place)...)
	}
	return out
}

// copied is a term with lists of its own.
func copied(t api.Term) api.Term {
	t.Kids, t.Arms, t.Row.Labels = slices.Clone(t.Kids), slices.Clone(t.Arms), slices.Clone(t.Row.Labels)
	for n := range t.Arms {
		t.Arms[n].Vars = slices.Clone(t.Arms[n].Vars)
	}
	for _, place := range places(&t) {
		*place = copied(*place)
	}
	return t
}

// TestMade holds all answers of made-up terms against the slow ones.
func TestMade(t *testing.T) {
	luck := dice(1)
	met := map[string]int{}
	for n := range 20000 {
		term := luck.term(n % 7)
		wantFree(t, term, term, slowFree(term))
		value, plain, quiet := slowValue(term), slowPlain(term), slowQuiet(term)
		want(t, term, []bool{names.Value(term), names.Plain(term), names.Quiet(term)}, []bool{value, plain, quiet})
		if value && !plain || plain && !quiet {
			t.Errorf("%+v: value %v, plain %v, quiet %v", term, value, plain, quiet)
		}
		for what, is := range map[string]bool{"value": value, "plain, no value": plain && !value, "quiet, not plain": quiet && !plain, "not quiet": !quiet, "closed": len(slowFree(term)) == 0} {
			if is {
				met[what]++
			}
		}
	}
	for what, count := range met {
		if count < 1500 {
			t.Errorf("%s: %d", what, count)
		}
	}
}

// TestMadeClauses holds Last of made-up clauses against the slow one; half of them are calls of their second name.
func TestMadeClauses(t *testing.T) {
	luck := dice(2)
	fine, wrong := 0, 0
	for n := range 20000 {
		a := arm("ask", luck.term(n%6), luck.name(), luck.name())
		if luck.under(2) == 0 {
			a.Body = app(variable(a.Vars[1]), a.Body)
		}
		got, last := names.Last(a)
		want(t, a, last, slowLast(a))
		if last {
			want(t, a, got, a.Body.Kids[1])
			fine++
		} else {
			want(t, a, got, api.Term{})
			wrong++
		}
	}
	if fine < 2000 || wrong < 2000 {
		t.Errorf("%d clauses resume last, %d do not", fine, wrong)
	}
}

// TestMadeScope: a program has a name that is not bound just if a name is free in its body.
func TestMadeScope(t *testing.T) {
	p, _, _ := parse.Parse([]byte(declarations + "1"))
	luck := dice(3)
	fine, wrong := 0, 0
	for n := range 10000 {
		p.Body = luck.term(n % 6)
		for range luck.under(7) {
			p.Body = fun(luck.name(), p.Body)
		}
		_, err := scope.Check(p)
		want(t, p.Body, len(names.Free(p.Body)) == 0, err == api.OK)
		if err == api.OK {
			fine++
		} else {
			wrong++
		}
	}
	if fine < 2000 || wrong < 2000 {
		t.Errorf("%d programs were fine, %d wrong", fine, wrong)
	}
}

// TestMadeAround: what a binder around a term makes of its free names.
func TestMadeAround(t *testing.T) {
	luck := dice(4)
	for n := range 3000 {
		term, other := luck.term(n%5), luck.term(n%4)
		a, b := luck.unlike()
		for _, name := range []string{"x", "y", "z", "k", "_"} {
			uses, others := names.Uses(term, name), names.Uses(other, name)
			unless := func(uses int, bound ...string) int {
				if name != "_" && slices.Contains(bound, name) {
					return 0
				}
				return uses
			}
			want(t, "fun", names.Uses(fun(a, term), name), unless(uses, a))
			want(t, "app", names.Uses(app(term, other), name), uses+others)
			want(t, "let", names.Uses(let(a, term, other), name), uses+unless(others, a))
			want(t, "rec", names.Uses(rec(a, b, term, other), name), unless(uses, a, b)+unless(others, a))
			match := api.Term{Kind: api.TermMatch, Kids: []api.Term{term}, Arms: []api.Arm{arm("A", term, a), arm("B", other, a, b), arm("C", term)}}
			want(t, "match", names.Uses(match, name), 2*uses+unless(uses, a)+unless(others, a, b))
		}
	}
}

// TestAllForms: whatever a term is made of, all calls end, and a value is plain (R2).
func TestAllForms(t *testing.T) {
	parts := []api.Term{variable("x"), app(variable("f"), variable("x")), {Kind: 99}}
	for kind := -1; kind < 17; kind++ {
		for kids := range 4 {
			for arms := range 3 {
				for _, part := range parts {
					term := api.Term{Kind: kind, Name: "x", Param: "y", Kids: slices.Repeat([]api.Term{part}, kids), Row: api.Row{Var: -1}}
					for n := range arms {
						term.Arms = append(term.Arms, arm("k", part, []string{"x", "f"}[:n]...))
					}
					names.Free(term)
					names.Uses(term, "x")
					names.Last(arm("ask", term, "y", "x"))
					if names.Value(term) && !names.Plain(term) || names.Plain(term) && !names.Quiet(term) {
						t.Errorf("%+v: a value, not plain, or plain, not quiet", term)
					}
				}
			}
		}
	}
}

// TestSame: the same calls have the same answers (R4), whichever others were in between.
func TestSame(t *testing.T) {
	luck := dice(6)
	for range 300 {
		term := luck.term(6)
		list := names.Free(term)
		for range 5 {
			names.Free(luck.term(4))
			want(t, term, names.Free(term), list)
		}
		if !reflect.DeepEqual(names.Free(copied(term)), list) {
			t.Errorf("%+v: another list of its copy", term)
		}
	}
}
