package source_test

import (
	"math"
	"testing"

	"brocade/api"
)

// one is a source, what there is to read, and how it runs: the outcome, the value, what is printed, the steps, the resumptions.
type one struct {
	source string
	input  []int
	want   api.Run
}

// is is a run that ends with a value, and prints nothing.
func is(v api.Value, steps, konts int) api.Run { return told(api.OutValue, v, nil, steps, konts) }

// stuck is a run that ends as OutStuck, and prints nothing.
func stuck(steps, konts int) api.Run { return told(api.OutStuck, api.Value{}, nil, steps, konts) }

func wantAll(t *testing.T, list []one) {
	t.Helper()
	for _, x := range list {
		got := ways(t, x.source, read(t, x.source), x.input, 10000)
		if !sameRun(got, x.want) {
			t.Errorf("%s: %v, not %v", x.source, got, x.want)
		}
	}
}

// TestLeaves has the terms whose step makes a value at once, or a name.
func TestLeaves(t *testing.T) {
	wantAll(t, []one{
		{"7", nil, is(number(7), 1, 0)},
		{"9223372036854775807", nil, is(number(math.MaxInt), 1, 0)},
		{"true", nil, is(truth(1), 1, 0)},
		{"false", nil, is(truth(0), 1, 0)},
		{"()", nil, is(unit(), 1, 0)},
		{"A", nil, is(con("A"), 1, 0)},
		{"A()", nil, is(con("A"), 1, 0)},
		{"fun x -> y", nil, is(fun(), 1, 0)},
		{"x", nil, stuck(1, 0)},
		{"_", nil, stuck(1, 0)},
		{"read ()", []int{5, 6}, is(number(5), 1, 0)},
		{"read ()", []int{math.MinInt}, is(number(math.MinInt), 1, 0)},
		{"read ()", nil, told(api.OutInput, api.Value{}, nil, 1, 0)},
		{"read ()", []int{}, told(api.OutInput, api.Value{}, nil, 1, 0)},
	})
}

// TestNames has functions, let and rec, and which value a name has.
func TestNames(t *testing.T) {
	wantAll(t, []one{
		{"(fun x -> x) 5", nil, is(number(5), 6, 0)},
		{"(fun x -> y) 5", nil, stuck(6, 0)},
		{"(fun x -> fun x -> x) 5 6", nil, is(number(6), 11, 0)},
		{"(fun x -> fun y -> x) 5 6", nil, is(number(5), 11, 0)},
		{"1 2", nil, stuck(5, 0)},
		{"1 x", nil, stuck(4, 0)},
		{"x 1", nil, stuck(2, 0)},
		{"1 (print 2)", nil, told(api.OutStuck, api.Value{}, []int{2}, 7, 0)},
		{"true (fun x -> x)", nil, stuck(5, 0)},
		{"A 1", nil, stuck(5, 0)},
		{"(ref 1) 1", nil, stuck(7, 0)},
		{"() ()", nil, stuck(5, 0)},

		{"let x = 5 in x", nil, is(number(5), 4, 0)},
		{"let x = x in 1", nil, stuck(2, 0)},
		{"let x = 1 in let x = x + 1 in x", nil, is(number(2), 11, 0)},
		{"let x = 1 in let f = fun y -> x in let x = 2 in f 0", nil, is(number(1), 15, 0)},
		{"(let x = 1 in x) + x", nil, stuck(7, 0)},
		{"let _ = 3 in _", nil, is(number(3), 4, 0)},

		{"rec f n = n in 1", nil, is(number(1), 2, 0)},
		{"rec f n = n in f", nil, is(fun(), 2, 0)},
		{"rec f n = n in f 3", nil, is(number(3), 7, 0)},
		{"rec f n = n in n", nil, stuck(2, 0)},
		{"rec f f = f in f 3", nil, is(number(3), 7, 0)},
		{"rec f n = f in f 3", nil, is(fun(), 7, 0)},
		{"rec f n = x in let x = 1 in f 3", nil, stuck(10, 0)},
		{"rec f n = if n < 1 then 0 else n + f (n - 1) in f 2", nil, is(number(3), 54, 0)},
		{"rec f n = n in let f = fun x -> 7 in f 1", nil, is(number(7), 10, 0)},
		{"let f = 1 in rec g n = f in let f = 2 in g 0", nil, is(number(1), 13, 0)},
		{"rec f n = if n < 1 then 0 else f (n - 1) in let g = f in let f = 1 in g 1", nil, is(number(0), 36, 0)},
	})
}

// TestChoices has if and match.
func TestChoices(t *testing.T) {
	wantAll(t, []one{
		{"if true then 1 else 2", nil, is(number(1), 4, 0)},
		{"if false then 1 else 2", nil, is(number(2), 4, 0)},
		{"if false then x else 2", nil, is(number(2), 4, 0)},
		{"if true then x else 2", nil, stuck(4, 0)},
		{"if 1 then 1 else 2", nil, stuck(3, 0)},
		{"if () then 1 else 2", nil, stuck(3, 0)},
		{"if A then 1 else 2", nil, stuck(3, 0)},
		{"if fun x -> x then 1 else 2", nil, stuck(3, 0)},
		{"if ref 0 then 1 else 2", nil, stuck(5, 0)},

		{"match A { A -> 1 }", nil, is(number(1), 4, 0)},
		{"match A { }", nil, stuck(3, 0)},
		{"match A { B -> 1 }", nil, stuck(3, 0)},
		{"match A { A x -> 1 }", nil, stuck(3, 0)},
		{"match A(1) { A -> 1 }", nil, stuck(5, 0)},
		{"match A(1) { A -> 1; A x y -> 2; B x -> 3; A x -> x + 10; A x -> 4 }", nil, is(number(11), 10, 0)},
		{"match P(1, 2) { P a b -> a - b }", nil, is(number(-1), 12, 0)},
		{"match P(1, 2) { P a a -> a }", nil, is(number(2), 8, 0)},
		{"match P(1, 2) { P _ _ -> _ }", nil, is(number(2), 8, 0)},
		{"let a = 7 in match P(1, 2) { P b c -> a }", nil, is(number(7), 11, 0)},
		{"let a = 7 in match P(1, 2) { P b a -> a }", nil, is(number(2), 11, 0)},
		{"match 1 { A -> 1 }", nil, stuck(3, 0)},
		{"match true { A -> 1 }", nil, stuck(3, 0)},
		{"match () { A -> 1 }", nil, stuck(3, 0)},
		{"match fun x -> x { A -> 1 }", nil, stuck(3, 0)},
		{"match ref 0 { A -> 1 }", nil, stuck(5, 0)},
	})
}

// TestNumbers has the operators that make something of two numbers, and constructors.
func TestNumbers(t *testing.T) {
	wantAll(t, []one{
		{"1 + 2", nil, is(number(3), 5, 0)},
		{"1 - 2", nil, is(number(-1), 5, 0)},
		{"3 * 4", nil, is(number(12), 5, 0)},
		{"(0 - 7) / 2", nil, is(number(-3), 9, 0)},
		{"1 < 2", nil, is(truth(1), 5, 0)},
		{"2 < 2", nil, is(truth(0), 5, 0)},
		{"2 = 2", nil, is(truth(1), 5, 0)},
		{"2 = 3", nil, is(truth(0), 5, 0)},
		{"9223372036854775807 + 1", nil, is(number(math.MinInt), 5, 0)},
		{"(0 - 9223372036854775807 - 1) / (0 - 1)", nil, is(number(math.MinInt), 17, 0)},
		{"1 / 0", nil, told(api.OutZero, api.Value{}, nil, 5, 0)},
		{"0 / 0", nil, told(api.OutZero, api.Value{}, nil, 5, 0)},
		{"0 / 5", nil, is(number(0), 5, 0)},
		{"print (1 / 0)", nil, told(api.OutZero, api.Value{}, nil, 6, 0)},
		{"true / 0", nil, stuck(5, 0)},
		{"1 / false", nil, stuck(5, 0)},
		{"true = true", nil, stuck(5, 0)},
		{"() = ()", nil, stuck(5, 0)},
		{"A = A", nil, stuck(5, 0)},
		{"1 + ()", nil, stuck(5, 0)},
		{"() + 1", nil, stuck(5, 0)},
		{"1 * A", nil, stuck(5, 0)},
		{"1 < (fun x -> x)", nil, stuck(5, 0)},
		{"1 - ref 1", nil, stuck(7, 0)},
		{"x + y", nil, stuck(2, 0)},
		{"1 + y", nil, stuck(4, 0)},

		{"A(1)", nil, is(con("A", number(1)), 3, 0)},
		{"A(1, true)", nil, is(con("A", number(1), truth(1)), 5, 0)},
		{"A(B, C(()), fun x -> x)", nil, is(con("A", con("B"), con("C", unit()), fun()), 9, 0)},
		{"A(1, x)", nil, stuck(4, 0)},
		{"A(read (), read (), read ())", []int{3, 1, 2}, is(con("A", number(3), number(1), number(2)), 7, 0)},
		{"read () - read ()", []int{9, 4}, is(number(5), 5, 0)},
	})
}

// TestCells has what is printed, read, and held by references.
func TestCells(t *testing.T) {
	wantAll(t, []one{
		{"print 3", nil, told(api.OutValue, unit(), []int{3}, 3, 0)},
		{"print print 3", nil, told(api.OutStuck, api.Value{}, []int{3}, 5, 0)},
		{"print true", nil, stuck(3, 0)},
		{"print ()", nil, stuck(3, 0)},
		{"print A", nil, stuck(3, 0)},
		{"print (fun x -> x)", nil, stuck(3, 0)},
		{"print ref 1", nil, stuck(5, 0)},
		{"P(print 2, print 1, print 2)", nil, told(api.OutValue, con("P", unit(), unit(), unit()), []int{2, 1, 2}, 13, 0)},
		{"let _ = print (read ()) in let _ = print (read () + 1) in read ()", []int{4, 7}, told(api.OutInput, api.Value{}, []int{4, 8}, 15, 0)},
		{"let _ = print 1 in x", nil, told(api.OutStuck, api.Value{}, []int{1}, 6, 0)},

		{"ref 5", nil, is(ref(0), 3, 0)},
		{"P(ref 5, ref 6, ref 7)", nil, is(con("P", ref(0), ref(1), ref(2)), 13, 0)},
		{"!(ref 5)", nil, is(number(5), 5, 0)},
		{"!1", nil, stuck(3, 0)},
		{"!A", nil, stuck(3, 0)},
		{"!(fun x -> x)", nil, stuck(3, 0)},
		{"ref 5 := 6", nil, is(unit(), 7, 0)},
		{"5 := 6", nil, stuck(5, 0)},
		{"() := 6", nil, stuck(5, 0)},
		{"6 := ref 5", nil, stuck(7, 0)},
		{"let r = ref 1 in let _ = r := !r + 1 in !r", nil, is(number(2), 21, 0)},
		{"let r = ref 1 in let s = ref 2 in let _ = r := 3 in P(!r, !s)", nil, is(con("P", number(3), number(2)), 26, 0)},
		{"let r = ref 1 in let s = ref 2 in let _ = s := 3 in P(!r, !s)", nil, is(con("P", number(1), number(3)), 26, 0)},
		{"let r = ref 1 in let s = ref r in let t = ref s in let _ = !(!t) := 4 in P(!r, !(!s), s, !t)", nil, is(con("P", number(4), number(4), ref(1), ref(1)), 43, 0)},
		{"let r = ref 1 in let s = r in let _ = s := true in !r", nil, is(truth(1), 18, 0)},
		{"let r = ref 0 in let _ = r := r in !(!(!r))", nil, is(ref(0), 19, 0)},
		{"let r = ref 0 in let _ = r := (fun n -> if n < 1 then 7 else (!r) (n - 1)) in (!r) 2", nil, is(number(7), 63, 0)},
	})
}

// TestHandlers has handlers, and what is asked of them.
func TestHandlers(t *testing.T) {
	wantAll(t, []one{
		{"handle E 1 { return x -> x }", nil, is(number(1), 4, 0)},
		{"handle E 1 { return x -> x + x }", nil, is(number(2), 8, 0)},
		{"let x = 9 in handle E 1 { return y -> x }", nil, is(number(9), 7, 0)},
		{"handle E get!() { return x -> x; get a k -> 5 }", nil, is(number(5), 5, 1)},
		{"handle E get!3 { return x -> x; get a k -> a }", nil, is(number(3), 5, 1)},
		{"handle E get!3 { return x -> x; get a k -> k }", nil, is(fun(), 5, 1)},
		{"handle E get!3 { return x -> x; get a a -> a }", nil, is(fun(), 5, 1)},
		{"handle E get!() { return x -> x + 1; get a k -> k 7 }", nil, is(number(8), 15, 1)},
		{"get!1", nil, stuck(3, 0)},
		{"get!x", nil, stuck(2, 0)},
		{"get!(print 1)", nil, told(api.OutStuck, api.Value{}, []int{1}, 5, 0)},
		{"handle E set!1 { return x -> x; get a k -> 5 }", nil, stuck(4, 0)},
		{"handle E 1 { return x -> get!x; get a k -> 5 }", nil, stuck(6, 0)},
		{"handle E get!1 { return x -> x; get a k -> get!a }", nil, stuck(7, 1)},
		{"handle E get!1 { return x -> x; get a k -> 5; get a k -> 6 }", nil, is(number(5), 5, 1)},
		{"handle E get!1 { return get -> get; set a k -> 5; get a k -> 6 }", nil, is(number(6), 5, 1)},
	})
}
