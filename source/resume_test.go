package source_test

import (
	"testing"

	"brocade/api"
	"brocade/value"
)

// after is a source that reads 1, 2, .., what its value is, or how else it ends, what it prints, and the resumptions.
type after struct {
	source string
	value  string
	trace  []int
	konts  int
}

func wantAfter(t *testing.T, list []after) {
	t.Helper()
	for _, x := range list {
		got := ways(t, x.source, read(t, x.source), []int{1, 2, 3, 4, 5}, 20000)
		text, err := value.Text(got.Outcome.Value)
		if err != api.OK {
			text = []string{"more", "", "zero", "input", "stuck"}[got.Outcome.Kind]
		}
		want := told(got.Outcome.Kind, got.Outcome.Value, x.trace, got.Steps, x.konts)
		if text != x.value || !sameRun(got, want) {
			t.Errorf("%s: %s, printed %v, %d resumptions", x.source, text, got.Trace, got.Konts)
		}
	}
}

// TestFramesTwice goes on twice from a resumption with each kind of frame in it: what one of both does, the other one
// does not see.
func TestFramesTwice(t *testing.T) {
	twice := " { return x -> x; c u k -> P(k 1, k 2) }"
	wantAfter(t, []after{
		{"handle E c!()" + twice, "P(1, 2)", nil, 1},
		{"handle E (c!()) 5 { return x -> x; c u k -> P(k (fun x -> x), k (fun x -> x + 1)) }", "P(5, 6)", nil, 1},
		{"handle E (fun x -> x * 2) (c!())" + twice, "P(2, 4)", nil, 1},
		{"handle E (let x = c!() in x * x + 1)" + twice, "P(2, 5)", nil, 1},
		{"handle E (if c!() = 1 then 10 else 20)" + twice, "P(10, 20)", nil, 1},
		{"handle E (let y = 7 in match A(c!()) { A x -> x + y })" + twice, "P(8, 9)", nil, 1},
		{"handle E (10 - c!())" + twice, "P(9, 8)", nil, 1},
		{"handle E (c!() - 10)" + twice, "P(-9, -8)", nil, 1},
		{"handle E (print c!())" + twice, "P((), ())", []int{1, 2}, 1},
		{"handle E (c!() * 10 + c!())" + twice, "P(P(11, 12), P(21, 22))", nil, 3},
		{"handle E (A(c!(), c!(), c!()))" + twice, "P(P(P(A(1, 1, 1), A(1, 1, 2)), P(A(1, 2, 1), A(1, 2, 2))), P(P(A(2, 1, 1), A(2, 1, 2)), P(A(2, 2, 1), A(2, 2, 2))))", nil, 7},
		{"handle E (A(c!(), 0, c!(), 5))" + twice, "P(P(A(1, 0, 1, 5), A(1, 0, 2, 5)), P(A(2, 0, 1, 5), A(2, 0, 2, 5)))", nil, 3},
		{"handle E (d!c!()) { return x -> x; c u k -> P(k 1, k 2); d x k -> k (x + 100) }", "P(101, 102)", nil, 3},
		{"handle F (handle E (c!() + d!()) { return x -> x; d u k -> k 10 }) { return x -> x; c u k -> P(k 1, k 2) }", "P(11, 12)", nil, 3},
		{"handle F (handle E (d!() + c!()) { return x -> x; d u k -> Q(k 10, k 20) })" + twice, "P(P(Q(11, 21), Q(11, 22)), P(Q(12, 21), Q(12, 22)))", nil, 4},
		{"handle E (let r = ref 0 in let x = c!() in let _ = r := !r + x in !r)" + twice, "P(1, 3)", nil, 1},
		{"handle E (let x = c!() in x * 10 + read ())" + twice, "P(11, 22)", nil, 1},
		{"handle E (let x = c!() in print x)" + twice, "P((), ())", []int{1, 2}, 1},
		{"handle E (rec f n = if n = 0 then Nil else Cons(c!(), f (n - 1)) in f 2)" + twice, "P(P(Cons(1, Cons(1, Nil)), Cons(1, Cons(2, Nil))), P(Cons(2, Cons(1, Nil)), Cons(2, Cons(2, Nil))))", nil, 3},
	})
}

// TestWhere has what is above and below a handler, its environment, and the handlers around.
func TestWhere(t *testing.T) {
	wantAfter(t, []after{
		{"1000 + (handle E (1 + get!5) { return x -> x; get u k -> u })", "1005", nil, 1},
		{"1000 + (handle E (1 + get!5) { return x -> x * 2; get u k -> k u + 100 })", "1112", nil, 1},
		{"let x = 5 in handle E (let x = 6 in get!()) { return y -> y; get u k -> x }", "5", nil, 1},
		{"let x = 5 in handle E (let x = 6 in get!()) { return y -> x; get u k -> k 1 }", "5", nil, 1},
		{"let x = 5 in handle E (let x = 6 in 1) { return y -> x }", "5", nil, 0},
		{"let x = 5 in handle E (let x = 6 in get!() + x) { return y -> y; get u k -> let x = 7 in k 10 }", "16", nil, 1},
		{"let x = 5 in handle A (let x = 6 in handle B (a!()) { return y -> y; b u k -> 0 }) { return y -> y; a u k -> x }", "5", nil, 1},
		{"let x = 5 in handle A (let x = 6 in handle B (a!()) { return y -> y + x; b u k -> 0 }) { return y -> y * x; a u k -> k (x + 1) }", "60", nil, 1},
		{"let x = 5 in handle A (let x = 6 in handle B (let x = 7 in a!x) { return y -> y + x; b u k -> u }) { return y -> y * x; a x k -> P(x, k x) }", "P(7, 65)", nil, 1},
		{"(handle E 1 { return x -> x; get u k -> 5 }) + get!()", "stuck", nil, 0},
		{"handle E (handle E get!1 { return x -> x; get u k -> 10 + get!u }) { return x -> x; get u k -> k (u + 1) }", "12", nil, 2},
		{"handle E (handle E 1 { return x -> get!x; get u k -> 0 }) { return x -> x; get u k -> k (u + 1) }", "2", nil, 1},
		{"handle E (handle E get!1 { return x -> x * 100; set u k -> 0 }) { return x -> x; get u k -> k 7 }", "700", nil, 1},
		{"handle E (handle F (handle E get!1 { return x -> x + 1; get u k -> k (u + 1) }) { return x -> x * 2; set u k -> 0 }) { return x -> x; get u k -> 0 }", "6", nil, 1},
		{"handle E (handle E get!(get!1) { return x -> x; get u k -> k (u * 3) }) { return x -> x; get u k -> 0 }", "9", nil, 2},
		{"handle A (handle B (handle C (a!1 + b!2 + c!3) { return x -> x + 1; c u k -> k (u * 10) }) { return x -> x * 2; b u k -> k (u * 100) }) { return x -> x + 5; a u k -> k (u * 1000) }", "2467", nil, 3},
		{"handle E (1 + throw!3) { return x -> x; throw x k -> get!x }", "stuck", nil, 1},
		{"let f = fun x -> get!x in handle E (f 3) { return x -> x; get u k -> k (u + u) }", "6", nil, 1},
		{"let f = handle E (fun x -> get!x) { return x -> x; get u k -> 1 } in f 3", "stuck", nil, 0},
		{"let f = handle E (fun x -> get!x) { return x -> x; get u k -> 1 } in handle E (f 3) { return x -> x; get u k -> 2 }", "2", nil, 1},
	})
}

// TestResumptions has what is done with a resumption: never called, called elsewhere, kept, handed on.
func TestResumptions(t *testing.T) {
	wantAfter(t, []after{
		{"let k = handle E (1 + get!()) { return x -> x * 10; get u k -> k } in P(k 1, k 2)", "P(20, 30)", nil, 1},
		{"let k = handle E (1 + a!(get!())) { return x -> x; get u k -> k } in handle A (k 5) { return x -> x + 1; a x j -> j (x * 2) }", "12", nil, 2},
		{"let k = handle E (1 + a!(get!())) { return x -> x; get u k -> k } in k 5", "stuck", nil, 1},
		{"let k = handle E (get!() + get!()) { return x -> x; get u k -> k } in let j = k 1 in P(j 10, j 20)", "P(11, 21)", nil, 2},
		{"let r = ref 0 in let a = handle E (1 + get!()) { return x -> x; get u k -> let _ = r := k in 0 } in P(a, (!r) 1, (!r) 2)", "P(0, 2, 3)", nil, 1},
		{"handle E get!() { return x -> x; get u k -> k }", "fun", nil, 1},
		{"handle E get!() { return x -> x; get u k -> P(k, k) }", "P(fun, fun)", nil, 1},
		{"handle E get!() { return x -> x; get u k -> k + 1 }", "stuck", nil, 1},
		{"handle E get!() { return x -> x; get u k -> if k then 1 else 2 }", "stuck", nil, 1},
		{"handle E get!() { return x -> x; get u k -> match k { A -> 1 } }", "stuck", nil, 1},
		{"handle E get!() { return x -> x; get u k -> !k }", "stuck", nil, 1},
		{"handle E (get!() 3) { return x -> x; get u k -> k k }", "stuck", nil, 0},
		{"handle E ((get!()) 3) { return x -> P(x, x); get u k -> k k }", "stuck", nil, 1},
		{"handle E (true + get!()) { return x -> x; get u k -> k 1 }", "stuck", nil, 1},
		{"handle E (1 / get!()) { return x -> x; get u k -> k u }", "stuck", nil, 1},
		{"handle E (1 / get!0) { return x -> x; get u k -> k u }", "zero", nil, 1},
		{"handle E (P(read (), read (), get!(), read ())) { return x -> x; get u k -> k (k ()) }", "P(1, 2, P(1, 2, (), 3), 4)", nil, 1},
		{"(handle S (let _ = put!(get!() + 1) in get!() * 10) { return x -> fun s -> P(x, s); get u k -> fun s -> k s s; put x k -> fun s -> k () x }) 4", "P(50, 5)", nil, 3},
		{"handle E (rec f n = if n = 0 then 0 else let _ = yield!n in f (n - 1) in f 4) { return x -> Nil; yield x k -> Cons(x, k ()) }", "Cons(4, Cons(3, Cons(2, Cons(1, Nil))))", nil, 4},
		{"handle E (rec f n = if n = 0 then 0 else n + (let _ = yield!n in f (n - 1)) in f 4) { return x -> Sum(x); yield x k -> let _ = print x in k () }", "Sum(10)", []int{4, 3, 2, 1}, 4},
		{"rec f n = if n = 0 then get!() else handle E (f (n - 1)) { return x -> x + 1; get u k -> k (get!()) } in handle E (f 3) { return x -> x; get u k -> k 100 }", "103", nil, 4},
		{"rec loop u = handle E (loop (get!())) { return x -> x; get u k -> 1 } in loop ()", "1", nil, 1},
	})
}
