package check_test

import (
	"fmt"
	"slices"
	"strconv"
	"strings"
	"testing"

	"brocade/api"
	"brocade/check"
	"brocade/scheme"
	"brocade/scope"
	"brocade/types"
)

// entry is a name with its scheme, in a list of all that were ever told, the latest one last.
type entry struct {
	name string
	scheme.Scheme
}

type entries []entry

func (e entries) and(name string, s scheme.Scheme) entries {
	if name == "_" {
		return e
	}
	return append(slices.Clone(e), entry{name, s})
}

func (e entries) bare(name string, t api.Type) entries { return e.and(name, scheme.Scheme{Type: t}) }

// of is what is told of a name.
func (e entries) of(name string) scheme.Scheme {
	for _, known := range slices.Backward(e) {
		if known.name == name {
			return known.Scheme
		}
	}
	return scheme.Scheme{}
}

// general is a type generalized over all that is told, by chapter 8.
func (e entries) general(t api.Type) scheme.Scheme {
	var env []scheme.Scheme
	for i, known := range e {
		if !slices.ContainsFunc(e[i+1:], func(later entry) bool { return later.name == known.name }) {
			env = append(env, known.Scheme)
		}
	}
	return scheme.General(env, t)
}

// form is a type as a text that is unlike for all unlike types, right or not.
func form(t api.Type) string {
	out := fmt.Sprintf("%d%q%d", t.Kind, t.Name, t.Var) + formRow(t.Row) + "("
	for _, arg := range t.Args {
		out += form(arg) + ";"
	}
	return out + ")"
}

func formRow(r api.Row) string {
	return fmt.Sprintf("%q%d", slices.Concat([]string{}, r.Labels), r.Var)
}

// rightForm tells whether a type is right, part by part.
func rightForm(t api.Type, deep int) bool {
	if deep > 200 || slices.ContainsFunc(t.Args, func(arg api.Type) bool { return !rightForm(arg, deep+1) }) {
		return false
	}
	alone := t
	alone.Args, alone.Row = nil, api.Row{}
	switch t.Kind {
	case api.TypInt, api.TypBool, api.TypUnit:
		return form(t) == form(kind(t.Kind))
	case api.TypData:
		return t.Name != "" && form(t) == form(data(t.Name))
	case api.TypVar:
		return t.Var > 0 && form(t) == form(variable(t.Var))
	case api.TypRef:
		return len(t.Args) == 1 && form(t) == form(ref(t.Args[0]))
	case api.TypFun:
		return len(t.Args) == 2 && form(alone) == form(kind(api.TypFun)) && rightFormRow(t.Row)
	}
	return false
}

func rightFormRow(r api.Row) bool {
	return r.Var >= 0 && slices.IsSorted(r.Labels) && !slices.Contains(r.Labels, "")
}

// slow tells which share is wrong first: for each kind of term it writes down what has to stand at it and right
// within it, as texts, and holds that against what does.
type slow struct{ api.Program }

// slowCheck is what Check has to answer.
func slowCheck(p api.Program) (int, api.Errno) {
	if at, err := scope.Check(p); err != api.OK {
		return at, err
	}
	if wrong := (slow{p}).wrong(p.Body, nil); wrong != nil {
		return wrong.At, api.ErrType
	}
	if formRow(p.Body.Row) != formRow(row(0, "console")) {
		return p.Body.At, api.ErrType
	}
	return 0, api.OK
}

func (s slow) wrong(t api.Term, e entries) *api.Term {
	if !rightForm(t.Type, 1) || !rightFormRow(t.Row) || !s.right(t, e) {
		return &t
	}
	for i, kid := range t.Kids {
		if wrong := s.wrong(kid, slowKid(t, i, e)); wrong != nil {
			return wrong
		}
	}
	for i, arm := range t.Arms {
		if wrong := s.wrong(arm.Body, s.arm(t, i, e)); wrong != nil {
			return wrong
		}
	}
	return nil
}

func slowKid(t api.Term, kid int, e entries) entries {
	switch {
	case t.Kind == api.TermFun:
		return e.bare(t.Name, t.Type.Args[0])
	case t.Kind == api.TermLet && kid == 1:
		if slowValue(t.Kids[0]) {
			return e.and(t.Name, e.general(t.Kids[0].Type))
		}
		return e.bare(t.Name, t.Kids[0].Type)
	case t.Kind == api.TermRec && kid == 0:
		return e.bare(t.Name, t.Own).bare(t.Param, t.Own.Args[0])
	case t.Kind == api.TermRec:
		return e.and(t.Name, e.general(t.Own))
	}
	return e
}

func slowValue(t api.Term) bool {
	if t.Kind == api.TermCon {
		return !slices.ContainsFunc(t.Kids, func(kid api.Term) bool { return !slowValue(kid) })
	}
	return t.Kind >= api.TermVar && t.Kind <= api.TermFun
}

func (s slow) arm(t api.Term, i int, e entries) entries {
	arm := t.Arms[i]
	if t.Kind == api.TermMatch {
		_, con, _ := scope.Con(s.Program, arm.Name)
		for n, name := range arm.Vars {
			e = e.bare(name, con.Fields[n])
		}
		return e
	}
	if i == 0 {
		return e.bare(arm.Vars[0], t.Kids[0].Type)
	}
	_, op, _ := scope.Effect(s.Program, arm.Name)
	return e.bare(arm.Vars[0], op.Arg).bare(arm.Vars[1], fun(op.Res, t.Row, t.Type))
}

// right tells whether just what has to stand at a term, and right within it, does.
func (s slow) right(t api.Term, e entries) bool {
	var has []string
	for _, part := range parts(&t) {
		has = append(has, form(part.Type)+formRow(part.Row))
	}
	has = append(has, form(t.Type))
	want, right := s.wants(t, e)
	return right && slices.Equal(has, want)
}

// wants is what has to stand at a term's kids and arms' bodies, and then its type; and whether all else is right.
func (s slow) wants(t api.Term, e entries) ([]string, bool) {
	whole, truth, unit := kind(api.TypInt), kind(api.TypBool), kind(api.TypUnit)
	in := func(r api.Row, of ...api.Type) []string {
		var out []string
		for _, kid := range of {
			out = append(out, form(kid)+formRow(r))
		}
		return out
	}
	at := func(answers api.Type, of ...api.Type) []string { return append(in(t.Row, of...), form(answers)) }
	kid := func(n int) api.Type { return t.Kids[n].Type }
	same := make([]api.Type, len(t.Arms))
	for i := range same {
		same[i] = t.Type
	}
	switch t.Kind {
	case api.TermVar:
		return at(t.Type), scheme.Instance(e.of(t.Name), t.Type)
	case api.TermInt:
		return at(whole), true
	case api.TermBool:
		return at(truth), true
	case api.TermUnit:
		return at(unit), true
	case api.TermFun:
		if t.Type.Kind != api.TypFun {
			return nil, false
		}
		return append(in(t.Type.Row, t.Type.Args[1]), form(t.Type)), true
	case api.TermApp:
		return at(t.Type, fun(kid(1), t.Row, t.Type), kid(1)), true
	case api.TermLet:
		return at(t.Type, kid(0), t.Type), true
	case api.TermRec:
		if t.Own.Kind != api.TypFun || !rightForm(t.Own, 1) {
			return nil, false
		}
		return slices.Concat(in(t.Own.Row, t.Own.Args[1]), at(t.Type, t.Type)), true
	case api.TermIf:
		return at(t.Type, truth, t.Type, t.Type), true
	case api.TermCon:
		d, con, _ := scope.Con(s.Program, t.Name)
		return at(data(d.Name), con.Fields...), true
	case api.TermMatch:
		d, _, _ := scope.Con(s.Program, t.Arms[0].Name)
		return at(t.Type, append([]api.Type{data(d.Name)}, same...)...), true
	case api.TermDo:
		effect, op, _ := scope.Effect(s.Program, t.Name)
		return at(op.Res, op.Arg), slices.Contains(t.Row.Labels, effect.Name)
	case api.TermHandle:
		return slices.Concat(in(types.Add(t.Row, t.Name), kid(0)), at(t.Type, same...)), true
	}
	prints := slices.Contains(t.Row.Labels, "console")
	switch t.Name {
	case "+", "-", "*", "/":
		return at(whole, whole, whole), true
	case "<", "=":
		return at(truth, whole, whole), true
	case "print":
		return at(unit, whole), prints
	case "read":
		return at(whole), prints
	case "ref":
		return at(ref(kid(0)), kid(0)), true
	case "!":
		return at(t.Type, ref(t.Type)), true
	}
	return at(unit, ref(kid(1)), kid(1)), true
}

// wantSlow holds what Check answers of a program against the second way, and answers the error.
func wantSlow(t *testing.T, p api.Program) api.Errno {
	t.Helper()
	at, err := check.Check(p)
	if wantAt, want := slowCheck(p); at != wantAt || err != want {
		t.Fatalf("%s: %v at %d, not %v at %d: %q", source(p), err, at, want, wantAt, all(p.Body))
	}
	return err
}

// TestForm: forms of unlike types are unlike, and of the same ones the same.
func TestForm(t *testing.T) {
	made := []api.Type{{}, {Name: "a"}, {Var: 1}, {Kind: 1}, {Kind: 6, Args: []api.Type{{}}}, {Kind: 6, Args: []api.Type{{}, {}}}, {Row: row(1)}, {Row: row(0, "")}, {Row: row(0, "", "")}, {Row: row(0, `","`)}, {Name: "1\"2"}, {Name: "1"}}
	for i, a := range made {
		for j, b := range made {
			if (form(a) == form(b)) != (i == j) || types.Same(a, b) != (i == j) {
				t.Errorf("%+v and %+v", a, b)
			}
		}
	}
	if form(api.Type{Args: []api.Type{}, Row: api.Row{Labels: []string{}}}) != form(api.Type{}) {
		t.Error("empty lists")
	}
	for deep := 199; deep < 203; deep++ {
		if of := typ(strings.Repeat("ref ", deep-1) + "int"); rightForm(of, 1) != (deep <= 200) || types.Depth(of) != min(deep, 201) {
			t.Error(strconv.Itoa(deep))
		}
	}
}
