package infer_test

import (
	"fmt"
	"testing"

	"brocade/api"
	"brocade/infer"
	"brocade/types"
	"brocade/unify"
)

// made is a term of a type without variables, within which no term has a type of more pieces.
func made(of api.Type) api.Term {
	switch of.Kind {
	case api.TypInt:
		return term(api.TermInt, "")
	case api.TypRef:
		return term(api.TermOp, "ref", made(of.Args[0]))
	}
	x := term(api.TermVar, "x")
	is := term(api.TermIf, "", term(api.TermBool, ""), x, made(of.Args[0]))
	return term(api.TermFun, "x", term(api.TermLet, "_", is, made(of.Args[1])))
}

// sized is a type of so many pieces, that is not deep.
func sized(pieces int) api.Type {
	switch {
	case pieces == 1:
		return kind(api.TypInt)
	case pieces%2 == 0:
		return ref(sized(pieces - 1))
	}
	left := (pieces - 1) / 2
	return fun(sized(left), row(0), sized(pieces-1-left))
}

func pieces(t api.Type) int {
	count := 1
	for _, arg := range t.Args {
		count += pieces(arg)
	}
	return count
}

// wantLimit holds that a body is taken, or that it is not because of a type that is large.
func wantLimit(t *testing.T, what string, body api.Term, large bool) {
	t.Helper()
	p := read(t, declarations+"1")
	p.Body = own(body)
	for i, at := range within(&p.Body) {
		at.At = 3 + i
	}
	if large {
		wantError(t, what, p, api.ErrLimit)
		return
	}
	out, at, err := infer.Infer(p)
	if err != api.OK {
		t.Fatalf("%s: %v at %d", what, err, at)
	}
	for _, at := range within(&out.Body) {
		if unify.Large(at.Type) || unify.Large(at.Own) {
			t.Fatalf("%s: a type is large", what)
		}
	}
}

// TestPieces has types of just as many pieces as may be, and of one more, at terms of many kinds.
func TestPieces(t *testing.T) {
	one, unit, x := term(api.TermInt, ""), term(api.TermUnit, ""), term(api.TermVar, "x")
	for _, count := range []int{998, 999, 1000, 1001} {
		is := made(sized(count))
		if pieces(sized(count)) != count {
			t.Fatalf("%d pieces, not %d", pieces(sized(count)), count)
		}
		for what, body := range map[string]api.Term{
			"itself":             is,
			"what let gives":     term(api.TermLet, "x", is, one),
			"what let gives, on": term(api.TermLet, "x", is, x),
			"where let is":       term(api.TermLet, "x", one, is),
			"a way of if":        term(api.TermIf, "", term(api.TermBool, ""), is, is),
		} {
			wantLimit(t, fmt.Sprint(count, ", ", what), body, count > 1000)
		}
		for what, body := range map[string]api.Term{
			"what a reference holds": term(api.TermOp, "ref", is),
			"what is assigned":       term(api.TermOp, ":=", term(api.TermOp, "ref", is), is),
		} {
			wantLimit(t, fmt.Sprint(count, ", ", what), body, count+1 > 1000)
		}
		wantLimit(t, fmt.Sprint(count, ", a function's"), term(api.TermFun, "y", is), count+2 > 1000)
		wantLimit(t, fmt.Sprint(count, ", a call's"), term(api.TermApp, "", term(api.TermFun, "y", unit), is), count+2 > 1000)
	}
}

// TestOwn has functions of rec that are large themselves, while no term's type is.
func TestOwn(t *testing.T) {
	x := term(api.TermVar, "x")
	for _, answers := range []int{497, 498, 499, 500} {
		is := term(api.TermIf, "", term(api.TermBool, ""), x, made(sized(501)))
		rec := term(api.TermRec, "f", term(api.TermLet, "_", is, made(sized(answers))), term(api.TermUnit, ""))
		rec.Param = "x"
		wantLimit(t, fmt.Sprint(answers), rec, answers+502 > 1000)
	}
}

// TestResumption: how large a resumption's type is matters only where it stands at a term.
func TestResumption(t *testing.T) {
	handle := func(of api.Type, clause api.Term) api.Term {
		out := term(api.TermHandle, "F", term(api.TermInt, ""))
		out.Arms = []api.Arm{{Name: "return", Vars: []string{"x"}, Body: made(of)}, {Name: "f", Vars: []string{"x", "k"}, Body: clause}}
		return out
	}
	k := term(api.TermVar, "k")
	for _, count := range []int{997, 998, 999, 1000} {
		of := sized(count)
		wantLimit(t, fmt.Sprint(count, " alone"), handle(of, made(of)), false)
		wantLimit(t, fmt.Sprint(count, " ahead of a value"), handle(of, term(api.TermLet, "y", term(api.TermFun, "z", term(api.TermVar, "z")), made(of))), false)
		wantLimit(t, fmt.Sprint(count, " used"), handle(of, term(api.TermApp, "", k, term(api.TermBool, ""))), count+2 > 1000)
		wantLimit(t, fmt.Sprint(count, " named"), handle(of, term(api.TermLet, "_", k, made(of))), count+2 > 1000)
	}
	wantLimit(t, "1001", handle(sized(1001), made(sized(1001))), true)
}

// TestDepthOfTypes has types that are as deep as may be, and one deeper, on each side.
func TestDepthOfTypes(t *testing.T) {
	for _, way := range []func(api.Type) api.Type{
		ref,
		func(t api.Type) api.Type { return fun(t, row(0), kind(api.TypInt)) },
		func(t api.Type) api.Type { return fun(kind(api.TypInt), row(0), t) },
	} {
		of := kind(api.TypInt)
		for deep := 1; deep <= 201; deep++ {
			if deep > 198 {
				wantLimit(t, fmt.Sprint(deep), made(of), deep > 200)
				wantLimit(t, fmt.Sprint(deep, " within"), term(api.TermOp, "ref", made(of)), deep+1 > 200)
			}
			of = way(of)
		}
	}
}

// TestDoubling has types that become twice as large from name to name.
func TestDoubling(t *testing.T) {
	x := term(api.TermVar, "x")
	for _, deep := range []int{1, 5, 7, 8, 9, 12, 40, 190} {
		body := term(api.TermVar, "p")
		for range deep {
			p := term(api.TermVar, "p")
			pair := term(api.TermFun, "f", term(api.TermApp, "", term(api.TermApp, "", term(api.TermVar, "f"), p), p))
			body = term(api.TermLet, "p", pair, body)
		}
		p := api.Program{Body: term(api.TermFun, "x", term(api.TermLet, "p", x, body))}
		out, _, err := infer.Infer(p)
		if deep <= 7 && err != api.OK || deep > 9 && err != api.ErrLimit || err != api.OK && err != api.ErrLimit {
			t.Errorf("%d: %v", deep, err)
		}
		if err == api.OK {
			wantRight(t, deep, out)
		}
	}
}

// TestEither: of a large type that is wrong either error may be told, and none other.
func TestEither(t *testing.T) {
	for _, count := range []int{999, 1000, 1001, 1100} {
		is := made(sized(count))
		p := api.Program{Body: term(api.TermOp, "+", is, is)}
		if _, _, err := infer.Infer(p); err != api.ErrType && (err != api.ErrLimit || count <= 1000) {
			t.Errorf("%d: %v", count, err)
		}
	}
}

// TestManyLabels has rows of many labels, and of one label many times.
func TestManyLabels(t *testing.T) {
	const many = 400
	var p api.Program
	unit := kind(api.TypUnit)
	body, happens := term(api.TermUnit, ""), row(1)
	for n := range many {
		name := fmt.Sprint("E", n)
		op := fmt.Sprint("e", n)
		p.Effects = append(p.Effects, api.Effect{Name: name, Ops: []api.OpSig{{Name: op, Arg: unit, Res: unit}}})
		body = term(api.TermLet, "_", term(api.TermDo, op, term(api.TermUnit, "")), body)
		happens = types.Add(happens, name)
	}
	p.Body = term(api.TermFun, "x", body)
	out := infers(t, "many", p)
	if want := fun(variable(1), happens, unit); !types.Same(out.Body.Type, want) {
		t.Errorf("%s", types.Text(out.Body.Type))
	}
	p.Body = term(api.TermApp, "", term(api.TermVar, "g"), term(api.TermUnit, ""))
	inner := row(1)
	for n := range many {
		p.Body = term(api.TermHandle, "E0", p.Body)
		k := term(api.TermApp, "", term(api.TermVar, "k"), term(api.TermUnit, ""))
		p.Body.Arms = []api.Arm{{Name: "return", Vars: []string{"x"}, Body: term(api.TermVar, "x")}, {Name: "e0", Vars: []string{"x", "k"}, Body: k}}
		p.Body.At = n
		inner = types.Add(inner, "E0")
	}
	p.Body = term(api.TermFun, "g", p.Body)
	out = infers(t, "one", p)
	if want := fun(fun(unit, inner, variable(1)), row(1), variable(1)); !types.Same(out.Body.Type, want) {
		t.Errorf("%s", types.Text(out.Body.Type))
	}
}

// TestDoublingLabels has a label twice as often from name to name: the call ends, as long as it may be so often.
func TestDoublingLabels(t *testing.T) {
	for _, deep := range []int{1, 2, 3, 8, 10, 40} {
		source := "effect E { e : unit -> unit } let f = fun g -> handle E g () { return x -> x; e x k -> k () } in "
		for range deep {
			source += "let f = fun g -> f (fun u -> f g) in "
		}
		p := read(t, source+"f")
		out, at, err := infer.Infer(p)
		if deep > 30 {
			if err != api.ErrLimit || at == 0 {
				t.Errorf("%d: %v at %d", deep, err, at)
			}
			continue
		}
		if labels := out.Body.Type.Args[0].Row.Labels; err != api.OK || len(labels) != 1<<deep {
			t.Errorf("%d: %v at %d, %d labels", deep, err, at, len(labels))
		}
	}
}
