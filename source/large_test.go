package source_test

import (
	"math"
	"testing"

	"brocade/api"
	"brocade/source"
)

// TestLarge has many steps, many frames, many cells, many resumptions, long resumptions, and many handlers.
func TestLarge(t *testing.T) {
	for _, x := range []struct {
		what, source string
		n, konts     int
	}{
		{"many steps", "rec f n = if n = 0 then 5 else f (n - 1) in f 300000", 5, 0},
		{"many frames", "rec f n = if n = 0 then 0 else 1 + f (n - 1) in f 100000", 100000, 0},
		{"many cells", "let first = ref 1 in rec f n = if n = 0 then !first else let r = ref n in let _ = first := !first + !r in f (n - 1) in f 1000", 500501, 0},
		{"one resumption after another", "rec f n = if n = 0 then 0 else let _ = tick!() in 1 + f (n - 1) in handle E (f 50000) { return x -> x; tick u k -> k () }", 50000, 50000},
		{"each longer than the one ahead", "rec f n = if n = 0 then 0 else 1 + (let _ = tick!() in f (n - 1)) in handle E (f 50000) { return x -> x; tick u k -> k () }", 50000, 50000},
		{"each with something to do behind it", "rec f n = if n = 0 then 0 else let _ = tick!() in f (n - 1) in handle E (f 50000) { return x -> x; tick u k -> 1 + k () }", 50000, 50000},
		{"a state", "rec f n = if n = 0 then get!() else let _ = put!(get!() + 1) in f (n - 1) in (handle E (f 20000) { return x -> fun s -> x + s; get u k -> fun s -> k s s; put x k -> fun s -> k () x }) 0", 40000, 40001},
		{"many ways", "rec f n = if n = 0 then 1 else (let b = flip!() in if b then f (n - 1) else 2 * f (n - 1)) in handle E (f 10) { return x -> x; flip u k -> k true + k false }", 59049, 1023},
		{"many handlers", "rec f n = if n = 0 then tick!() else handle F (1 + f (n - 1)) { return x -> x; other u k -> k () } in handle E (f 30000) { return x -> x; tick u k -> k 1 + k 2 }", 60003, 1},
		{"many handlers of the same", "rec f n = if n = 0 then tick!5 else handle E (f (n - 1)) { return x -> x + 1; tick u k -> k (tick!u) } in handle E (f 1000) { return x -> x; tick u k -> k u }", 1005, 1001},
	} {
		got := source.Run(read(t, x.source), nil, math.MaxInt)
		want := told(api.OutValue, number(x.n), nil, got.Steps, x.konts)
		wantRun(t, x.what, got, want)
		wantRun(t, x.what, stepped(read(t, x.source)), want)
	}
}

// TestLong has much that is printed and read.
func TestLong(t *testing.T) {
	input := make([]int, 50000)
	for n := range input {
		input[n] = n * n
	}
	p := read(t, "rec f n = let _ = print (read () + n) in f (n + 1) in f 0")
	got := source.Run(p, input, math.MaxInt)
	if got.Outcome.Kind != api.OutInput || len(got.Trace) != len(input) {
		t.Fatalf("%v after %d", got.Outcome, len(got.Trace))
	}
	for n, printed := range got.Trace {
		if printed != n*n+n {
			t.Fatalf("%d: %d", n, printed)
		}
	}
}
