package parse_test

import (
	"strings"
	"testing"

	"brocade/api"
)

// marked is a source in which a word is marked by a ~ ahead of it, and where that word begins; at the source's end it marks that.
func marked(text string) (string, int) {
	at := strings.Index(text, "~")
	return text[:at] + text[at+1:], at
}

// TestSyntax has for each row of the grammar the word with which it is no beginning of a program any more.
func TestSyntax(t *testing.T) {
	for _, text := range []string{
		"~", " # note\n~", "~)", "~;", "~->", "~in", "~return", "~: x", "~,", "~int", "~+ 1", "~:= 1",
		"1 ~)", "f x ~)", "1 ~in", "x ~; y", "x ~effect E { } 1", "x ~data", "x ~fun y -> y", "x ~let", "f ~if", "x ~-> y", "x ~: int", "x ~, y", "x ~int",

		"effect~", "effect ~e { } 1", "effect ~{ } 1", "effect E ~1", "effect E~", "effect E {~", "effect E { ~E : int -> int } 1", "effect E { ~; } 1", "effect E { ~f! : int -> int } 1",
		"effect E { f ~}", "effect E { f ~:= int -> int }", "effect E { f : ~}", "effect E { f : ~x", "effect E { f : ~-> int", "effect E { f : int ~}", "effect E { f : int -> ~}", "effect E { f : int ~int",
		"effect E { f : int -> int ~-> int", "effect E { f : int -> int~", "effect E { f : int -> int ~f", "effect E { f : int -> int ; ~}", "effect E { f : int -> int ~, g", "effect E { }~", "effect E { } ~}", "effect E { f : ~(int)", "effect E { f : ~ref int",
		"data~", "data ~d { } 1", "data D ~A", "data D { ~a } 1", "data D { ~int } 1", "data D { A ~x } 1", "data D { A ~( int ) } 1", "data D { A ; ~} 1", "data D { A ; ~; } 1", "data D { A ~, B } 1", "data D { A B int unit bool C~", "data D { A }~", "data D { } ~, 1", "data D { A ~: int",

		"fun~", "fun ~X -> 1", "fun ~1 -> 1", "fun ~f! -> 1", "fun ~( x ) -> x", "fun ~in -> x", "fun x ~y -> x", "fun x ~= x", "fun x ->~", "fun x -> ~)", "fun x -> x ~;",
		"let ~X = 1 in 2", "let x ~1", "let x ~:= 1 in x", "let x = ~in", "let x = 1~", "let x = 1 ~; x", "let x = 1 ~then", "let x = 1 in~", "let x = 1 in ~in", "let x = fun y -> y ~else", "let ~rec", "let x ~y = 1", "let x = 1 = 2 ~= 3 in x",
		"rec~", "rec ~F x = 1 in 2", "rec f ~= 1 in 2", "rec f ~X = 1 in 2", "rec f x ~y = 1 in 2", "rec f x ~-> 1", "rec f x = ~in", "rec f x = 1 ~,", "rec f x = 1 in ~)",
		"if~", "if ~then", "if a ~else", "if a ~in", "if a then ~else", "if a then b~", "if a then b ~in", "if a then b ~then", "if a then b else~", "if a then b else ~)", "if a then b else c ~else",
		"match~", "match ~{ }", "match x ~}", "match x~", "match x ~; {", "match x {~", "match x { ~a -> 1 }", "match x { ~1 -> 1 }", "match x { ~return x -> 1 }", "match x { ~; }", "match x { A ~( y ) -> 1 }", "match x { A ~B -> 1 }", "match x { A y ~f! -> 1", "match x { A ~= 1 }", "match x { A -> ~}", "match x { A -> 1 ~, B -> 1 }", "match x { A -> 1 ; ~}", "match x { A -> 1 ~-> 1 }", "match x { } ~x", "match x { } ~+ 1", "match x { } ~{",
		"handle~", "handle ~e x { return x -> x }", "handle ~( E ) x { return x -> x }", "handle E ~{ return x -> x }", "handle E x ~return", "handle E x { ~}", "handle E x { ~get a k -> 1 }", "handle E x { ~; return", "handle E x { return ~-> x }", "handle E x { return x ~y -> x }", "handle E x { return ~X -> x }", "handle E x { return x -> ~}", "handle E x { return x -> x~", "handle E x { return x -> x ; ~}", "handle E x { return x -> x ; ~return y -> y }", "handle E x { return x -> x ; get ~-> 1 }", "handle E x { return x -> x ; get a ~-> 1 }", "handle E x { return x -> x ; get a k ~b -> 1 }", "handle E x { return x -> x ; get a k ~= 1 }", "handle E x { return x -> x ; ~get! a k -> 1", "handle E x { return x -> x ; ~Get a k -> 1", "handle E x { return x -> x ~, get a k -> 1", "handle E x { return x -> x ; get a k -> 1 ; ~}", "handle E x { return x -> x } ~{ }",

		"x := ~:= y", "x :=~", "x := y ~:= z", "x := ~fun y -> y", "1 := ~)", "x ~: = 1",
		"1 <~", "1 < ~< 2", "1 < 2 ~< 3", "1 < 2 ~= 3", "1 = 2 ~< 3", "1 = ~:= 2", "1 < 2 := 3 < 4 ~< 5",
		"1 +~", "1 + ~* 2", "1 - ~+ 2", "~- 1", "1 - ~- 1", "1 + ~if", "1 * ~/ 2", "1 * ~let", "1 / ~in", "1 * (2) ~)",
		"print~", "print ~+", "! ~:= x", "ref ~fun x -> x", "get! ~)", "get! ~match", "print ref ! op! ~;",
		"f ~print x", "f ~! x", "f ~ref x", "f ~get! x", "x ~!", "f x ~!y", "1 + f ~print 2", "C ~!x", "C (1) ~!x",
		"read~", "read ~x", "read ~! x", "read ( ~x )", "read ( ~1", "read (~", "read ( ~( ) )", "read () ~!",
		"(~", "( ~}", "( ~in", "( 1~", "( 1 ~}", "( 1 ~, 2 )", "( ) ~)", "( 1 ) ~)", "( ~; )", "f ( ~-> )",
		"C (~", "C ( ~,", "C ( ~}", "C ( 1~", "C ( 1 ~;", "C ( 1 ,~", "C ( 1 , ~)", "C ( 1 , ~, 2 )", "C ( 1 , 2 ~}", "C ( ) ~, 1", "C ( 1 ) ~)", "C ~, 1", "C ( 1 2 ~: 3", "C ~: int",
	} {
		source, at := marked(text)
		wantFault(t, source, at, api.ErrSyntax)
		if at == len(source) {
			wantFault(t, source+" \n# note", at+8, api.ErrSyntax)
		} else {
			wantFault(t, source+" )", at, api.ErrSyntax)
			wantFault(t, source[:at]+"\t# note\n"+source[at:], at+8, api.ErrSyntax)
		}
	}
	wantFault(t, "", 0, api.ErrSyntax)
}

// TestLexFirst has faults of words ahead of, and behind, those of the grammar.
func TestLexFirst(t *testing.T) {
	long := strings.Repeat("n", 61)
	deep := strings.Repeat("(", 300)
	for source, at := range map[string]int{
		"$":                            0,
		"f $":                          2,
		"x ) $":                        4,
		") ) ( 9223372036854775808":    6,
		"1 1 " + long:                  4,
		"$ )":                          0,
		"effect e { f > } ?":           13,
		deep + "$":                     300,
		strings.Repeat("!", 300) + "$": 300,
	} {
		wantFault(t, source, at, api.ErrLex)
	}
	fill := func(text string) string { return strings.Repeat(text, api.MaxSource/len(text)) }
	wantFault(t, fill(" ")+"x", 0, api.ErrLimit)
	wantFault(t, fill(")")+")", 0, api.ErrLimit)
	wantFault(t, fill(" ")[1:]+"$", api.MaxSource-1, api.ErrLex)
	wantProgram(t, fill(" ")[1:]+"x", "x@1048575")
	wantFault(t, fill(" "), api.MaxSource, api.ErrSyntax)
}

// TestLargest has sources of as many bytes as there may be.
func TestLargest(t *testing.T) {
	wantFine(t, "C( "+strings.Repeat("1,", api.MaxSource/2-3)+"x) ")
	for _, piece := range []string{"f ", "!!"} {
		source := strings.Repeat(piece, api.MaxSource/2)
		wantFault(t, source[:api.MaxSource-1]+"x", 0, api.ErrLimit)
	}
	source := strings.Repeat("1+", api.MaxSource/2)
	wantFault(t, source, api.MaxSource, api.ErrSyntax)
	wantFault(t, source[:api.MaxSource-1]+"}", api.MaxSource-1, api.ErrSyntax)
}
