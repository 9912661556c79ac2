package source_test

import (
	"math"
	"testing"

	"brocade/api"
	"brocade/source"
)

// TestFuel: at most as many steps as there is fuel are done.
func TestFuel(t *testing.T) {
	loop := read(t, "rec f x = let _ = print x in f (x + 1) in f 0")
	trace := []int{}
	for fuel := range 2000 {
		got := source.Run(loop, nil, fuel)
		for n, printed := range got.Trace {
			if printed != n {
				t.Fatalf("%d: %v", fuel, got.Trace)
			}
		}
		if len(got.Trace) < len(trace) {
			t.Fatalf("%d: %v is less than %v", fuel, got.Trace, trace)
		}
		trace = got.Trace
		wantRun(t, fuel, got, told(api.OutMore, api.Value{}, trace, fuel, 0))
	}
	if len(trace) < 100 {
		t.Errorf("printed %v", trace)
	}
	for _, fuel := range []int{0, -1, -2, -1000, math.MinInt} {
		wantRun(t, fuel, source.Run(loop, nil, fuel), api.Run{})
		wantRun(t, fuel, source.Run(read(t, "1"), nil, fuel), api.Run{})
		wantRun(t, fuel, source.Run(api.Program{}, nil, fuel), api.Run{})
	}
	for _, fuel := range []int{1, 2, math.MaxInt} {
		wantRun(t, fuel, source.Run(read(t, "1"), nil, fuel), is(number(1), 1, 0))
		wantRun(t, fuel, source.Run(api.Program{}, nil, fuel), stuck(1, 0))
	}
}

// TestNothing has machines that nobody started, and those of no program.
func TestNothing(t *testing.T) {
	var none *source.State
	for _, s := range []*source.State{none, {}, new(source.State)} {
		for range 3 {
			wantRun(t, "none", s.Now(), api.Run{})
			if s.Step() {
				t.Errorf("a step of nothing")
			}
		}
	}
	s := source.Start(api.Program{}, nil)
	wantRun(t, "of no term", s.Now(), api.Run{})
	if !s.Step() || s.Step() {
		t.Errorf("of no term: not just one step")
	}
	wantRun(t, "of no term", s.Now(), stuck(1, 0))
}

// TestDeclared: what is declared, and what was inferred, has no meaning for what a program does.
func TestDeclared(t *testing.T) {
	bare := read(t, "handle E (P(get! 1, 2)) { return x -> x; get u k -> k true }")
	for _, more := range []string{"effect E { get : int -> bool }", "effect F { get : unit -> P }", "data P { P int int }", "data A { }", "effect E { }"} {
		p := read(t, more+" handle E (P(get! 1, 2)) { return x -> x; get u k -> k true }")
		wantRun(t, more, source.Run(p, nil, 100), source.Run(bare, nil, 100))
	}
	p := bare
	p.Body.Type, p.Body.Row, p.Body.Own, p.Body.At = api.Type{Kind: 9}, api.Row{Var: -1}, api.Type{Kind: -3}, -7
	wantRun(t, "with types", ways(t, "with types", p, nil, 100), source.Run(bare, nil, 100))
}
