package names_test

import (
	"fmt"

	"brocade/names"
	"brocade/parse"
	"brocade/print"
)

func ExampleFree() {
	program, _, _ := parse.Parse([]byte("(fun x -> x z) (y z)"))
	fmt.Println(names.Free(program.Body), names.Uses(program.Body, "z"), names.Uses(program.Body, "x"))
	// Output:
	// [y z] 2 0
}

func ExamplePlain() {
	for _, source := range []string{"Cons(x, fun y -> f y)", "let x = 1 in x + 2", "f x"} {
		program, _, _ := parse.Parse([]byte(source))
		fmt.Println(names.Value(program.Body), names.Plain(program.Body))
	}
	// Output:
	// true true
	// false true
	// false false
}

func ExampleLast() {
	for _, clause := range []string{"x k -> k (x + 1)", "x k -> k (k 1)"} {
		program, _, _ := parse.Parse([]byte("handle E 1 { return x -> x; get " + clause + " }"))
		with, last := names.Last(program.Body.Arms[1])
		text, _ := print.Term(with)
		fmt.Println(text, last)
	}
	// Output:
	// x + 1 true
	//  false
}
