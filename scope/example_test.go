package scope_test

import (
	"fmt"

	"brocade/parse"
	"brocade/scope"
)

func ExampleCheck() {
	free, _, _ := parse.Parse([]byte("fun x -> y"))
	fmt.Println(scope.Check(free))
	bound, _, _ := parse.Parse([]byte("fun x -> x"))
	fmt.Println(scope.Check(bound))
	// Output:
	// 9 error 4
	// 0 error 0
}

func ExampleEffect() {
	program, _, _ := parse.Parse([]byte("effect State { get : unit -> int ; set : int -> unit } ()"))
	effect, op, there := scope.Effect(program, "set")
	fmt.Println(effect.Name, len(effect.Ops), op.Name, there)
	_, _, there = scope.Effect(program, "put")
	fmt.Println(there)
	// Output:
	// State 2 set true
	// false
}

func ExamplePrims() {
	fmt.Println(scope.Prims(":="))
	fmt.Println(scope.Prims("read"))
	fmt.Println(scope.Prims("x"))
	// Output:
	// 2 true
	// 0 true
	// 0 false
}
