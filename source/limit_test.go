package source_test

import (
	"fmt"
	"math"
	"testing"

	"brocade/api"
	"brocade/source"
	"brocade/value"
)

// wantValue holds what a program is in the end.
func wantValue(t *testing.T, what string, p api.Program, want api.Value) {
	t.Helper()
	for way, got := range []api.Run{source.Run(p, nil, math.MaxInt), stepped(p)} {
		if got.Outcome.Kind != api.OutValue || !value.Same(got.Outcome.Value, want) {
			t.Errorf("%s, way %d: %s, with %d kids", what, way, short(got), len(got.Outcome.Value.Kids))
		}
	}
}

func stepped(p api.Program) api.Run {
	s := source.Start(p, nil)
	for s.Step() {
	}
	return s.Now()
}

// TestWideValues has one constructor of so many values.
func TestWideValues(t *testing.T) {
	for _, pieces := range []int{1, 2, 100, 9999, 10000, 10001, 10002, 20000, 200000} {
		b, want := term(api.TermCon, "A"), con("A")
		for n := range pieces - 1 {
			b.Kids = append(b.Kids, whole(n))
			if pieces <= api.MaxValue {
				want.Kids = append(want.Kids, number(n))
			}
		}
		wantValue(t, fmt.Sprint(pieces, " pieces"), body(b), want)
		if got := source.Run(body(b), nil, math.MaxInt).Steps; got != 2*pieces-1 {
			t.Errorf("%d pieces: %d steps", pieces, got)
		}
	}
}

// TestDeepValues has so many constructors within each other.
func TestDeepValues(t *testing.T) {
	for _, pieces := range []int{1, 2, 1000, 1001, 9999, 10000, 10001, 10002, 100000} {
		want := con("Z")
		if pieces > api.MaxValue {
			want = con("D")
		} else {
			for range pieces - 1 {
				want = con("D", want)
			}
		}
		wantValue(t, fmt.Sprint(pieces, " pieces"), read(t, fmt.Sprintf("rec f n = if n < 1 then Z else D(f (n - 1)) in f %d", pieces-1)), want)
	}
}

// TestSharedValues has values that stand in many places: a piece counts as often as it stands there.
func TestSharedValues(t *testing.T) {
	for _, leaf := range []struct {
		source string
		value  api.Value
	}{{"3", number(3)}, {"fun x -> x", fun()}, {"ref 1", ref(0)}, {"()", unit()}, {"A", con("A")}} {
		for _, levels := range []int{0, 1, 5, 12, 13, 30, 60, 1000} {
			text := fmt.Sprintf("rec f n = fun v -> if n < 1 then v else f (n - 1) (P(v, v)) in f %d (%s)", levels, leaf.source)
			want := leaf.value
			if levels > 12 { // 2^(levels + 1) - 1 pieces
				want = con("P")
			} else {
				for range levels {
					want = con("P", want, want)
				}
			}
			wantValue(t, text, read(t, text), want)
		}
	}
	many := "let a = fun x -> x in let b = Q(a, a, a, a, a, a, a, a, a) in let c = Q(b, b, b, b, b, b, b, b, b, 1, 2, 3, 4, 5, 6, 7, 8, 9) in let d = Q(c, c, c, c, c, c, c, c, c) in Q(d, d, d, d, d, d, d, d, d"
	wantPieces(t, many+")", 8110) // a has 1 piece, b has 10, c 100, d 901
	many += ", d, c, c, c, c, c, c, c, c, c, b, b, b, b, b, b, b, b"
	wantPieces(t, many+")", 9991)
	wantPieces(t, many+", 1, 2, 3, 4, 5, 6, 7, 8)", 9999)
	wantPieces(t, many+", 1, 2, 3, 4, 5, 6, 7, 8, 9)", 10000)
	wantPieces(t, many+", 1, 2, 3, 4, 5, 6, 7, 8, 9, a)", 10001)
	wantPieces(t, many+", 1, 2, 3, 4, 5, 6, 7, 8, b)", 10009)
	wantPieces(t, many+", d)", 10892)
}

// wantPieces holds how many pieces a value has, if it is told whole: else it is told without kids.
func wantPieces(t *testing.T, text string, pieces int) {
	t.Helper()
	got := source.Run(read(t, text), nil, math.MaxInt).Outcome
	if pieces > api.MaxValue {
		pieces = 1
	}
	if got.Kind != api.OutValue || got.Value.Name != "Q" || slowPieces(got.Value) != pieces {
		t.Errorf("%s: %d pieces", text, slowPieces(got.Value))
	}
}

// TestLargeWithin: values that are too large to be told are whole within the machine.
func TestLargeWithin(t *testing.T) {
	text := "rec f n = if n < 1 then Nil else Cons(n, f (n - 1)) in rec sum l = match l { Nil -> 0; Cons h t -> h + sum t } in sum (f 20000)"
	wantValue(t, text, read(t, text), number(200010000))
	text = "rec f n = fun v -> if n < 1 then v else f (n - 1) (P(v, v)) in rec down n = fun v -> if n < 1 then v else match v { P a b -> down (n - 1) b } in down 997 (f 1000 7)"
	want := number(7)
	for range 3 {
		want = con("P", want, want)
	}
	wantValue(t, text, read(t, text), want)
}
