package source_test

import (
	"testing"

	"brocade/api"
	"brocade/source"
)

// meaning is what a term comes to, told without frames: a value, an operation that is asked, with what becomes of
// its answer, or an end.
type meaning struct {
	end   int // OutZero, OutInput, OutStuck; tired, if it took too long
	asks  bool
	op    string
	value any
	then  func(answer any) meaning
}

// tired is how a term ends that takes too long.
const tired = -1

// Values are int, bool, unit (struct{}), built, *cell, and functions.
type built struct {
	name string
	kids []any
}

type cell struct {
	number int
	holds  any
}

type does func(v any) meaning

// world is what all of a run have together.
type world struct {
	input, trace []int
	cells, asked int
	breath       int // how many terms may still be evaluated
}

func was(v any) meaning { return meaning{value: v} }

func ended(how int) meaning { return meaning{end: how} }

// next goes on with the value that a term comes to; who asks is answered first.
func (m meaning) next(f func(v any) meaning) meaning {
	switch {
	case m.end != 0:
		return m
	case m.asks:
		then := m.then
		m.then = func(answer any) meaning { return then(answer).next(f) }
		return m
	}
	return f(m.value)
}

// env is names with their values, told by a closure.
type env func(name string) (any, bool)

func (e env) with(name string, v any) env {
	return func(asked string) (any, bool) {
		if asked == name {
			return v, true
		}
		return e(asked)
	}
}

// of is what a term comes to, for a term that has all it needs.
func (w *world) of(t api.Term, e env) meaning {
	if w.breath--; w.breath < 0 {
		return ended(tired)
	}
	switch t.Kind {
	case api.TermVar:
		if v, told := e(t.Name); told {
			return was(v)
		}
		return ended(api.OutStuck)
	case api.TermInt:
		return was(t.N)
	case api.TermBool:
		return was(t.N%2 != 0)
	case api.TermUnit:
		return was(struct{}{})
	case api.TermFun:
		return was(does(func(v any) meaning { return w.of(t.Kids[0], e.with(t.Name, v)) }))
	case api.TermRec:
		var f does
		f = func(v any) meaning { return w.of(t.Kids[0], e.with(t.Name, f).with(t.Param, v)) }
		return w.of(t.Kids[1], e.with(t.Name, f))
	case api.TermLet:
		return w.of(t.Kids[0], e).next(func(v any) meaning { return w.of(t.Kids[1], e.with(t.Name, v)) })
	case api.TermHandle:
		return w.handled(w.of(t.Kids[0], e), t.Arms, e)
	}
	return w.all(t.Kids[:evaluated(t)], e, nil, func(v []any) meaning { return w.made(t, e, v) })
}

// evaluated is how many kids of a term are evaluated ahead of all else.
func evaluated(t api.Term) int {
	if t.Kind == api.TermIf {
		return 1
	}
	return len(t.Kids)
}

// all evaluates terms, from the left.
func (w *world) all(t []api.Term, e env, ahead []any, f func(v []any) meaning) meaning {
	if len(t) == 0 {
		return f(ahead)
	}
	return w.of(t[0], e).next(func(v any) meaning {
		return w.all(t[1:], e, append(ahead[:len(ahead):len(ahead)], v), f)
	})
}

// made is what a term makes of values.
func (w *world) made(t api.Term, e env, v []any) meaning {
	switch t.Kind {
	case api.TermApp:
		if f, callable := v[0].(does); callable {
			return f(v[1])
		}
	case api.TermIf:
		if holds, truth := v[0].(bool); truth && holds {
			return w.of(t.Kids[1], e)
		} else if truth {
			return w.of(t.Kids[2], e)
		}
	case api.TermCon:
		return was(built{t.Name, v})
	case api.TermDo:
		return meaning{asks: true, op: t.Name, value: v[0], then: was}
	case api.TermMatch:
		if b, data := v[0].(built); data {
			return w.matched(t.Arms, b, e)
		}
	case api.TermOp:
		return w.operator(t.Name, v)
	}
	return ended(api.OutStuck)
}

func (w *world) matched(arms []api.Arm, b built, e env) meaning {
	for _, a := range arms {
		if a.Name == b.name && len(a.Vars) == len(b.kids) {
			for i, name := range a.Vars {
				e = e.with(name, b.kids[i])
			}
			return w.of(a.Body, e)
		}
	}
	return ended(api.OutStuck)
}

func (w *world) operator(name string, v []any) meaning {
	if name == "read" {
		if len(w.input) == 0 {
			return ended(api.OutInput)
		}
		first := w.input[0]
		w.input = w.input[1:]
		return was(first)
	}
	if name == "ref" {
		w.cells++
		return was(&cell{w.cells - 1, v[0]})
	}
	if at, isCell := v[0].(*cell); isCell && name == "!" {
		return was(at.holds)
	} else if isCell && name == ":=" {
		at.holds = v[1]
		return was(struct{}{})
	}
	a, whole := v[0].(int)
	if whole && name == "print" {
		w.trace = append(w.trace, a)
		return was(struct{}{})
	}
	b, both := v[len(v)-1].(int)
	if !whole || !both || len(v) != 2 || name == ":=" {
		return ended(api.OutStuck)
	}
	if name == "/" && b == 0 {
		return ended(api.OutZero)
	}
	return was(map[string]func() any{
		"+": func() any { return a + b },
		"-": func() any { return a - b },
		"*": func() any { return a * b },
		"/": func() any { return a / b },
		"<": func() any { return a < b },
		"=": func() any { return a == b },
	}[name]())
}

// handled is what a handler makes of what a term comes to.
func (w *world) handled(m meaning, arms []api.Arm, e env) meaning {
	again := func(answer any) meaning { return w.handled(m.then(answer), arms, e) }
	switch {
	case m.end != 0:
		return m
	case !m.asks:
		return w.of(arms[0].Body, e.with(arms[0].Vars[0], m.value))
	}
	for _, a := range arms[1:] {
		if a.Name == m.op && len(a.Vars) == 2 {
			w.asked++
			return w.of(a.Body, e.with(a.Vars[0], m.value).with(a.Vars[1], does(again)))
		}
	}
	return meaning{asks: true, op: m.op, value: m.value, then: again}
}

// valueOf is a value as a run tells it.
func valueOf(v any) api.Value {
	switch is := v.(type) {
	case int:
		return number(is)
	case bool:
		if is {
			return truth(1)
		}
		return truth(0)
	case struct{}:
		return unit()
	case built:
		out := con(is.name)
		for _, kid := range is.kids {
			out.Kids = append(out.Kids, valueOf(kid))
		}
		return out
	case *cell:
		return ref(is.number)
	}
	return fun()
}

// meant is how a program ends, without the number of steps; false, if that takes too long.
func meant(p api.Program, input []int, breath int) (api.Run, bool) {
	w := &world{input: input, breath: breath}
	nothing := func(string) (any, bool) { return nil, false }
	m := w.of(p.Body, nothing)
	out := api.Run{Trace: w.trace, Konts: w.asked}
	switch {
	case m.asks:
		out.Outcome.Kind = api.OutStuck
	case m.end != 0:
		out.Outcome.Kind = m.end
	default:
		out.Outcome = api.Outcome{Kind: api.OutValue, Value: valueOf(m.value)}
	}
	return out, m.end != tired
}

// TestMeaning makes up programs, and holds how they end against a way without frames and steps.
func TestMeaning(t *testing.T) {
	m := newMaker(5)
	compared, resumed := 0, 0
	for range 8000 {
		p, input := m.program(2+m.under(7)), []int{3, -1, 4, 1, -5, 9, 2}[:m.under(8)]
		if compared%5 == 0 {
			p.Body = own(p.Body)
			m.spoilComplete(&p.Body)
		}
		got := source.Run(p, input, 3000)
		if got.Outcome.Kind == api.OutMore {
			continue
		}
		want, settled := meant(p, input, 10000)
		want.Steps = got.Steps
		if !settled || !sameRun(got, want) {
			t.Fatalf("%s: %s, not %s", short(shown{p}), short(got), short(want))
		}
		compared++
		if got.Konts > 1 {
			resumed++
		}
	}
	if compared < 7000 || resumed < 400 {
		t.Errorf("%d were held against it, %d of these resumed", compared, resumed)
	}
}

// spoilComplete changes a term, so that all terms in it still have what they need.
func (m *maker) spoilComplete(b *api.Term) {
	all := places(b)
	at := pick(&m.dice, all)
	if m.under(2) == 0 {
		*at = own(*pick(&m.dice, all))
		return
	}
	switch at.Kind {
	case api.TermVar, api.TermDo, api.TermCon, api.TermLet, api.TermFun, api.TermRec:
		at.Name = pick(&m.dice, []string{"x", "y", "z", "k", "f", "g", "e", "Nil", "Cons"})
	}
}

// TestMeaningByHand holds the way without frames itself.
func TestMeaningByHand(t *testing.T) {
	for text, want := range map[string]api.Run{
		"handle E (get!() + get!()) { return x -> x; get u k -> k 1 + k 2 }": is(number(12), 0, 3),
		"handle E (P(c!(), print 7)) { return x -> x; c u k -> Q(k 1, k 2) }": told(api.OutValue,
			con("Q", con("P", number(1), unit()), con("P", number(2), unit())), []int{7, 7}, 0, 1),
		"let r = ref 5 in let _ = r := !r + 1 in P(r, !r)": is(con("P", ref(0), number(6)), 0, 0),
		"get!1": stuck(0, 0),
	} {
		got, settled := meant(read(t, text), nil, 1000)
		if !settled {
			t.Errorf("%s: too long", text)
		}
		wantRun(t, text, got, want)
	}
	if _, settled := meant(read(t, "rec f x = f x in f 0"), nil, 1000); settled {
		t.Errorf("what goes on for ever ended")
	}
}
