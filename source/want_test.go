package source_test

import (
	"fmt"
	"math"
	"slices"
	"testing"

	"brocade/api"
	"brocade/parse"
	"brocade/source"
	"brocade/value"
)

// read is the program of a source.
func read(t *testing.T, text string) api.Program {
	t.Helper()
	p, at, err := parse.Parse([]byte(text))
	if err != api.OK {
		t.Fatalf("%.300s: %v at %d", text, err, at)
	}
	return p
}

func sameRun(a, b api.Run) bool {
	return a.Outcome.Kind == b.Outcome.Kind && value.Same(a.Outcome.Value, b.Outcome.Value) && slices.Equal(a.Trace, b.Trace) && a.Steps == b.Steps && a.Konts == b.Konts
}

// short is the text of something, or how that begins.
func short(what any) string { return fmt.Sprintf("%.2000s", fmt.Sprint(what)) }

func wantRun(t *testing.T, what any, got, want api.Run) {
	t.Helper()
	if !sameRun(got, want) {
		t.Fatalf("%s: %s, not %s", short(what), short(got), short(want))
	}
}

// ways is a program's runs, by both ways: step by step, as far as both go, but at most so many steps. Each step is
// held against the other way's, what was printed only grows, and behind the end nothing changes.
// It answers how the program is in the end.
func ways(t *testing.T, what any, p api.Program, input []int, most int) api.Run {
	t.Helper()
	fast, slow := source.Start(p, input), slowStart(p, input)
	now := fast.Now()
	wantRun(t, what, now, slow.now())
	for range most {
		went := slow.step()
		if fast.Step() != went {
			t.Fatalf("%s: a step behind %s: %v", short(what), short(now), !went)
		}
		next := fast.Now()
		wantRun(t, what, next, slow.now())
		if !slices.Equal(next.Trace[:len(now.Trace)], now.Trace) {
			t.Fatalf("%s: %v was printed, and then %v", short(what), now.Trace, next.Trace)
		}
		now = next
		if !went {
			break
		}
	}
	wantRun(t, what, source.Run(p, input, now.Steps), now)
	if now.Outcome.Kind != api.OutMore {
		wantEnded(t, what, p, input, fast)
	}
	return now
}

// wantEnded holds that a machine has ended, that more fuel changes nothing, and that with less it had not ended.
func wantEnded(t *testing.T, what any, p api.Program, input []int, s *source.State) {
	t.Helper()
	now := s.Now()
	for range 3 {
		if s.Step() {
			t.Fatalf("%s: a step behind the end %s", short(what), short(now))
		}
		wantRun(t, what, s.Now(), now)
	}
	for _, fuel := range []int{now.Steps + 1, now.Steps + 1000, math.MaxInt} {
		wantRun(t, what, source.Run(p, input, fuel), now)
	}
	less := source.Run(p, input, now.Steps-1)
	if less.Outcome.Kind != api.OutMore || less.Steps != now.Steps-1 || !value.Same(less.Outcome.Value, api.Value{}) {
		t.Fatalf("%s: %s with one step less than %s", short(what), short(less), short(now))
	}
}

// told is a run to be held against another one.
func told(outcome int, v api.Value, trace []int, steps, konts int) api.Run {
	return api.Run{Outcome: api.Outcome{Kind: outcome, Value: v}, Trace: trace, Steps: steps, Konts: konts}
}

func number(n int) api.Value { return api.Value{Kind: api.ValInt, N: n} }

func truth(n int) api.Value { return api.Value{Kind: api.ValBool, N: n} }

func unit() api.Value { return api.Value{Kind: api.ValUnit} }

func ref(n int) api.Value { return api.Value{Kind: api.ValRef, N: n} }

func fun() api.Value { return api.Value{Kind: api.ValFun} }

func con(name string, kids ...api.Value) api.Value {
	return api.Value{Kind: api.ValCon, Name: name, Kids: kids}
}
