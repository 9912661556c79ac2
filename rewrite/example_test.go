package rewrite_test

import (
	"fmt"

	"brocade/parse"
	"brocade/rewrite"
)

func ExampleApart() {
	program, _, _ := parse.Parse([]byte("fun x -> fun x -> x"))
	outer := rewrite.Apart(program.Body)
	inner := outer.Kids[0]
	fmt.Println(outer.Name, inner.Name, inner.Kids[0].Name)
	// Output:
	// x'1 x'2 x'2
}

func ExampleAlike() {
	first, _, _ := parse.Parse([]byte("fun x -> fun y -> x z"))
	for _, source := range []string{"fun y -> fun x -> y z", "fun x -> fun y -> y z", "fun x -> fun y -> x y"} {
		program, _, _ := parse.Parse([]byte(source))
		fmt.Println(rewrite.Alike(first.Body, program.Body))
	}
	// Output:
	// true
	// false
	// false
}
