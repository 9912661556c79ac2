package infer_test

import (
	"maps"
	"slices"
	"strconv"
	"testing"

	"brocade/api"
	"brocade/infer"
	"brocade/print"
	"brocade/scheme"
	"brocade/scope"
	"brocade/subst"
	"brocade/types"
	"brocade/unify"
)

// second infers a second way: with one substitution that is put into all that is known wherever something is
// generalized, from the right to the left. It panics with the error.
type second struct {
	api.Program
	said subst.Subst
	next int
}

func (w *second) fresh() int {
	w.next++
	return w.next - 1
}

func (w *second) typ() api.Type { return variable(w.fresh()) }

func (w *second) same(a, b api.Type) {
	said, next, err := unify.Types(w.said, a, b, w.next)
	if err != api.OK {
		panic(err)
	}
	w.said, w.next = said, next
}

func (w *second) sameRow(a, b api.Row) {
	said, next, err := unify.Rows(w.said, a, b, w.next)
	if err != api.OK {
		panic(err)
	}
	w.said, w.next = said, next
}

// has makes a row have a label, by holding it against one that has it.
func (w *second) has(r api.Row, label string) {
	if !slices.Contains(w.said.ApplyRow(r).Labels, label) {
		w.sameRow(row(w.fresh(), label), r)
	}
}

// general is a type generalized over what is known, by chapter 8.
func (w *second) general(a around, t api.Type) scheme.Scheme {
	var env []scheme.Scheme
	for _, name := range slices.Sorted(maps.Keys(a)) {
		s := a[name]
		s.Type = w.said.Apply(s.Type)
		env = append(env, s)
	}
	return scheme.General(env, w.said.Apply(t))
}

// term finds the type of a term in a row, and leaves both at it.
func (w *second) term(t *api.Term, a around, r api.Row) api.Type {
	t.Row = r
	t.Type = w.found(t, a, r)
	return t.Type
}

func (w *second) found(t *api.Term, a around, r api.Row) api.Type {
	kid := func(n int) api.Type { return w.term(&t.Kids[n], a, r) }
	switch t.Kind {
	case api.TermVar:
		is, next := scheme.Fresh(a[t.Name], w.next)
		w.next = next
		return is
	case api.TermInt:
		return kind(api.TypInt)
	case api.TermBool:
		return kind(api.TypBool)
	case api.TermUnit:
		return kind(api.TypUnit)
	case api.TermFun:
		takes, happens := w.typ(), row(w.fresh())
		return fun(takes, happens, w.term(&t.Kids[0], a.bare(t.Name, takes), happens))
	case api.TermApp:
		takes, answers := kid(1), w.typ()
		w.same(fun(takes, r, answers), kid(0))
		return answers
	case api.TermLet:
		is := kid(0)
		s := scheme.Bare(is)
		if isValue(t.Kids[0]) {
			s = w.general(a, is)
		}
		return w.term(&t.Kids[1], a.and(t.Name, s), r)
	case api.TermRec:
		t.Own = fun(w.typ(), row(w.fresh()), w.typ())
		w.same(t.Own.Args[1], w.term(&t.Kids[0], a.bare(t.Name, t.Own).bare(t.Param, t.Own.Args[0]), t.Own.Row))
		return w.term(&t.Kids[1], a.and(t.Name, w.general(a, t.Own)), r)
	case api.TermIf:
		either := kid(2)
		w.same(kid(1), either)
		w.same(kid(0), kind(api.TypBool))
		return either
	case api.TermOp:
		return w.operator(t, kid, r)
	case api.TermCon:
		d, con, _ := scope.Con(w.Program, t.Name)
		for n, field := range slices.Backward(con.Fields) {
			w.same(field, kid(n))
		}
		return data(d.Name)
	case api.TermDo:
		effect, op, _ := scope.Effect(w.Program, t.Name)
		w.has(r, effect.Name)
		w.same(kid(0), op.Arg)
		return op.Res
	case api.TermMatch:
		return w.match(t, a, r)
	}
	return w.handle(t, a, r)
}

func (w *second) operator(t *api.Term, kid func(int) api.Type, r api.Row) api.Type {
	whole, unit := kind(api.TypInt), kind(api.TypUnit)
	switch t.Name {
	case "print":
		w.has(r, "console")
		w.same(whole, kid(0))
		return unit
	case "read":
		w.has(r, "console")
		return whole
	case "ref":
		return ref(kid(0))
	case "!":
		held := w.typ()
		w.same(ref(held), kid(0))
		return held
	case ":=":
		held := kid(1)
		w.same(ref(held), kid(0))
		return unit
	}
	w.same(whole, kid(1))
	w.same(whole, kid(0))
	if t.Name == "<" || t.Name == "=" {
		return kind(api.TypBool)
	}
	return whole
}

func (w *second) match(t *api.Term, a around, r api.Row) api.Type {
	d, _, _ := scope.Con(w.Program, t.Arms[0].Name)
	is := w.typ()
	for n := range slices.Backward(t.Arms) {
		arm, b := &t.Arms[n], a
		for i, name := range arm.Vars {
			b = b.bare(name, d.Cons[n].Fields[i])
		}
		w.same(is, w.term(&arm.Body, b, r))
	}
	w.same(data(d.Name), w.term(&t.Kids[0], a, r))
	return is
}

func (w *second) handle(t *api.Term, a around, r api.Row) api.Type {
	effect, _ := scope.Handled(w.Program, t.Name)
	is := w.typ()
	for n := range slices.Backward(effect.Ops) {
		arm, op := &t.Arms[n+1], effect.Ops[n]
		w.same(is, w.term(&arm.Body, a.bare(arm.Vars[0], op.Arg).bare(arm.Vars[1], fun(op.Res, r, is)), r))
	}
	of := w.term(&t.Kids[0], a, types.Add(r, t.Name))
	w.same(is, w.term(&t.Arms[0].Body, a.bare(t.Arms[0].Vars[0], of), r))
	return is
}

// secondly is what the second way answers: all that is inferred of all terms, and the error.
func secondly(p api.Program) (out []string, err api.Errno) {
	p.Body = own(p.Body)
	w := second{Program: p, said: subst.None(), next: 1}
	defer func() {
		if failed := recover(); failed != nil {
			out, err = nil, failed.(api.Errno)
		}
	}()
	w.term(&p.Body, around{}, row(0, "console"))
	for _, t := range within(&p.Body) {
		t.Type, t.Own, t.Row = w.said.Apply(t.Type), w.said.Apply(t.Own), types.Sorted(w.said.ApplyRow(t.Row))
		if unify.Large(t.Type) || unify.Large(t.Own) {
			return nil, api.ErrLimit
		}
	}
	return numbered(all(p.Body)), api.OK
}

// numbered is texts, with their variables numbered as they stand there.
func numbered(texts []string) []string {
	kinds, rows := map[string]int{}, map[string]int{}
	return each(texts, func(text string) string {
		return variables.ReplaceAllStringFunc(text, func(found string) string {
			met := kinds
			if found[0] == '|' {
				met = rows
			}
			if met[found] == 0 {
				met[found] = len(met) + 1
			}
			return found[:1] + strconv.Itoa(met[found])
		})
	})
}

func each[A, B any](l []A, become func(A) B) []B {
	var out []B
	for _, item := range l {
		out = append(out, become(item))
	}
	return out
}

// own is a term with lists of its own.
func own(t api.Term) api.Term {
	t.Kids, t.Arms = slices.Clone(t.Kids), slices.Clone(t.Arms)
	for i := range t.Arms {
		t.Arms[i].Vars = slices.Clone(t.Arms[i].Vars)
	}
	for _, part := range parts(&t) {
		*part = own(*part)
	}
	return t
}

// source is a program as a text.
func source(p api.Program) string {
	text, err := print.Print(p)
	if err != api.OK {
		text = "what can't be written"
	}
	return text
}

// wantSecond holds what is inferred of a program against the second way, and answers the error; each may answer
// ErrLimit where the other one has ErrType.
func wantSecond(t *testing.T, p api.Program) api.Errno {
	t.Helper()
	want, wanted := secondly(p)
	out, at, err := infer.Infer(p)
	if err != wanted && (err == api.OK || wanted == api.OK) {
		t.Fatalf("%s: %v at %d, not %v", source(p), err, at, wanted)
	}
	if err == api.OK && !slices.Equal(all(out.Body), want) {
		t.Fatalf("%s: %q, not %q", source(p), all(out.Body), want)
	}
	return err
}

// TestSecondSources has the programs of which others hold what they are by hand.
func TestSecondSources(t *testing.T) {
	for _, source := range slices.Concat(slices.Sorted(maps.Keys(bodies())), wrongs()) {
		wantSecond(t, read(t, declarations+source))
	}
}

// small are all terms of up to so many terms, of some kinds.
func small(most int) []api.Term {
	leaves := []api.Term{term(api.TermVar, "x"), term(api.TermVar, "y"), term(api.TermInt, ""), term(api.TermUnit, "")}
	one := []api.Term{term(api.TermFun, "x"), term(api.TermFun, "y"), term(api.TermOp, "print"), term(api.TermOp, "ref"), term(api.TermOp, "!"), term(api.TermDo, "e"), term(api.TermCon, "One")}
	rec := term(api.TermRec, "x")
	rec.Param = "y"
	two := []api.Term{term(api.TermApp, ""), term(api.TermLet, "x"), rec, term(api.TermOp, ":="), term(api.TermOp, "+")}
	bySize := [][]api.Term{nil, leaves}
	out := slices.Clone(leaves)
	for size := 2; size <= most; size++ {
		var made []api.Term
		for _, t := range one {
			for _, kid := range bySize[size-1] {
				t.Kids = []api.Term{kid}
				made = append(made, t)
			}
		}
		for _, t := range two {
			for left := 1; left < size-1; left++ {
				for _, first := range bySize[left] {
					for _, other := range bySize[size-1-left] {
						t.Kids = []api.Term{first, other}
						made = append(made, t)
					}
				}
			}
		}
		bySize = append(bySize, made)
		out = append(out, made...)
	}
	return out
}

// TestSmall has all small terms, alone and as a function's body.
func TestSmall(t *testing.T) {
	p := read(t, declarations+"1")
	fine, wrong := 0, 0
	for _, body := range small(5) {
		for _, p.Body = range []api.Term{body, term(api.TermFun, "x", body)} {
			if _, err := scope.Check(p); err != api.OK {
				continue
			}
			if wantSecond(t, p) == api.OK {
				fine++
			} else {
				wrong++
			}
		}
	}
	if fine < 2000 || wrong < 2000 {
		t.Errorf("%d were fine, %d wrong", fine, wrong)
	}
}
