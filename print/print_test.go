package print_test

import (
	"math"
	"reflect"
	"testing"

	"brocade/api"
	"brocade/parse"
	"brocade/print"
)

func read(t *testing.T, source string) api.Program {
	t.Helper()
	p, at, err := parse.Parse([]byte(source))
	if err != api.OK {
		t.Fatalf("%.80q: %v at %d", source, err, at)
	}
	return p
}

// wantText prints a program, and reads what was printed.
func wantText(t *testing.T, p api.Program, want string) {
	t.Helper()
	got, err := print.Print(p)
	if got != want || err != api.OK || !print.Right(p) {
		t.Fatalf("%.300s and %v, not %.300s; right: %v", got, err, want, print.Right(p))
	}
	if again := read(t, got); !reflect.DeepEqual(bareProgram(again), bareProgram(p)) {
		t.Fatalf("%.300s is read as %v", got, again)
	}
}

// wantWrong holds that a program can not be written.
func wantWrong(t *testing.T, what any, p api.Program) {
	t.Helper()
	if got, err := print.Print(p); got != "" || err != api.ErrArg || print.Right(p) {
		t.Errorf("%+v: %.80q and %v, right: %v", what, got, err, print.Right(p))
	}
}

// wantWrongTerm holds that a term can not be written, neither alone nor as a body.
func wantWrongTerm(t *testing.T, what any, term api.Term) {
	t.Helper()
	if got, err := print.Term(term); got != "" || err != api.ErrArg {
		t.Errorf("%+v: the term: %.80q and %v", what, got, err)
	}
	wantWrong(t, what, api.Program{Body: term})
}

func TestPrint(t *testing.T) {
	for source, want := range map[string]string{
		"x": "x", "007": "7", "0": "0", "00": "0", "9223372036854775807": "9223372036854775807", "true": "true", "false": "false",
		"()": "( )", "read()": "read ( )", "C": "C ( )", "C()": "C ( )", "C(1)": "C ( 1 )", "C(1,x,())": "C ( 1 , x , ( ) )", "((1))": "1", "C((1))": "C ( 1 )",
		"C(C(C),D(1))": "C ( C ( C ( ) ) , D ( 1 ) )", "C(f x,1+2,fun x->x,print 1)": "C ( f x , 1 + 2 , fun x -> x , print 1 )",

		"f x": "f x", "f x y z": "f x y z", "f(x y)z": "f ( x y ) z", "f(x(y z))": "f ( x ( y z ) )", "(f x)(y z)": "f x ( y z )", "((f x)y)z": "f x y z",
		"f()": "f ( )", "f read()": "f read ( )", "read()()": "read ( ) ( )", "f C": "f C ( )", "C 1": "C ( ) 1", "C()()": "C ( ) ( )", "C(1)(2)": "C ( 1 ) 2", "f 1 true": "f 1 true", "1 2": "1 2",
		"f(1+2)": "f ( 1 + 2 )", "f(print x)": "f ( print x )", "f(get!x)": "f ( get! x )", "(fun x->x)1": "( fun x -> x ) 1", "(1+2)3": "( 1 + 2 ) 3", "(!f)x": "( ! f ) x", "(get!f)x": "( get! f ) x", "(if a then b else c)d": "( if a then b else c ) d", "(fun x->x)y z": "( fun x -> x ) y z",

		"1+2+3": "( 1 + 2 ) + 3", "1+(2+3)": "1 + ( 2 + 3 )", "1*2+3": "( 1 * 2 ) + 3", "1+2*3": "1 + ( 2 * 3 )", "1-2/3": "1 - ( 2 / 3 )", "f x+1": "( f x ) + 1", "1<2": "1 < 2", "a=b": "a = b", "1+2<3": "( 1 + 2 ) < 3", "a=(b=c)": "a = ( b = c )",
		"x:=1": "x := 1", "x:=y z": "x := ( y z )", "x:=1<2": "x := ( 1 < 2 )", "x:=(y:=z)": "x := ( y := z )", "!x+!y": "( ! x ) + ( ! y )", "x:=!x+1": "x := ( ( ! x ) + 1 )", "C+C(1)": "C ( ) + C ( 1 )", "read()+read()": "read ( ) + read ( )", "1+(fun x->x)": "1 + ( fun x -> x )", "get!1+2": "( get! 1 ) + 2", "()=()": "( ) = ( )",
		"print 1": "print 1", "print print 1": "print ( print 1 )", "!!x": "! ( ! x )", "ref ref x": "ref ( ref x )", "ref C": "ref C ( )", "print f x": "print ( f x )", "!f x": "! ( f x )", "print(1+2)": "print ( 1 + 2 )", "print read()": "print read ( )", "print()": "print ( )",
		"get!x": "get! x", "get!()": "get! ( )", "get!f x": "get! ( f x )", "get!put!x": "get! ( put! x )", "get!C(1)": "get! C ( 1 )", "get!(1:=2)": "get! ( 1 := 2 )", "print get!(fun x->x)": "print ( get! ( fun x -> x ) )", "get!!x": "get! ( ! x )",

		"fun x->x": "fun x -> x", "fun x->fun y->x y": "fun x -> fun y -> x y", "fun x->1+2": "fun x -> 1 + 2", "fun x->(x)": "fun x -> x",
		"let x=1 in x": "let x = 1 in x", "let x=let y=1 in y in x:=1": "let x = let y = 1 in y in x := 1", "let x=fun y->y in f x": "let x = fun y -> y in f x",
		"rec f x=f x in f 1": "rec f x = f x in f 1", "rec f f=rec g g=1 in 2 in f+g": "rec f f = rec g g = 1 in 2 in f + g",
		"if a then b else c": "if a then b else c", "if if a then b else c then d=e else f x": "if if a then b else c then d = e else f x",
		"match x{}": "match x { }", "match f x{A->1}": "match f x { A -> 1 }", "match match x{}{A->match y{};B y z->y+z;A->fun x->x}": "match match x { } { A -> match y { } ; B y z -> y + z ; A -> fun x -> x }", "match C{C->C}": "match C ( ) { C -> C ( ) }",
		"handle E x{return x->x}": "handle E x { return x -> x }", "handle E(x){return x->x}": "handle E x { return x -> x }", "handle E(){return x->()}": "handle E ( ) { return x -> ( ) }", "handle E E{return x->x}": "handle E E ( ) { return x -> x }", "handle E(f x)+1{return x->x}": "handle E ( f x ) + 1 { return x -> x }",
		"handle E get!(){return x->x+1;get a k->k a;put a k->k();get a a->print a}": "handle E get! ( ) { return x -> x + 1 ; get a k -> k a ; put a k -> k ( ) ; get a a -> print a }", "handle E let x=1 in x{return x->handle E x{return x->x}}": "handle E let x = 1 in x { return x -> handle E x { return x -> x } }",
		"(match x{})1": "( match x { } ) 1", "print(match x{})": "print ( match x { } )", "1+(handle E x{return x->x})": "1 + ( handle E x { return x -> x } )",

		"effect E{}0": "effect E { } 0", "data D{}0": "data D { } 0", "data D{A}(f x)+1": "data D { A } ( f x ) + 1", "data D{}()": "data D { } ( )",
		"effect E{get:unit->int;put:int->unit;d:D->bool}0": "effect E { get : unit -> int ; put : int -> unit ; d : D -> bool } 0", "data D{A int bool unit D E;B;A}0": "data D { A int bool unit D E ; B ; A } 0",
		"data D{}effect E{}data F{}effect G{}x":     "effect E { } effect G { } data D { } data F { } x",
		"effect E{}effect E{}data E{E}data E{E}E E": "effect E { } effect E { } data E { E } data E { E } E ( ) E ( )",
	} {
		wantText(t, read(t, source), want)
	}
}

// TestTerm: the text of a term alone is that of it as a body.
func TestTerm(t *testing.T) {
	for source, want := range map[string]string{"f x+1": "( f x ) + 1", "f x y": "f x y", "f!x": "f! x", "C": "C ( )", "fun x->(1)": "fun x -> 1"} {
		if got, err := print.Term(read(t, source).Body); got != want || err != api.OK {
			t.Errorf("%s: %s and %v", source, got, err)
		}
	}
}

func TestNumbers(t *testing.T) {
	for n, want := range map[int]string{0: "0", 1: "1", 10: "10", 1000000: "1000000", math.MaxInt: "9223372036854775807"} {
		wantText(t, api.Program{Body: api.Term{Kind: api.TermInt, N: n}}, want)
	}
	for _, n := range []int{-1, -7, math.MinInt} {
		wantWrongTerm(t, "a number", api.Term{Kind: api.TermInt, N: n})
	}
}
