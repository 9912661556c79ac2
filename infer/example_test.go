package infer_test

import (
	"fmt"

	"brocade/api"
	"brocade/infer"
	"brocade/parse"
	"brocade/types"
)

func ExampleInfer() {
	for _, source := range []string{
		"fun x -> x",
		"effect State { get : unit -> int } fun f -> f (get! ())",
		"let id = fun x -> x in id id 1",
		"fun x -> x x",
	} {
		program, _, _ := parse.Parse([]byte(source))
		program, at, err := infer.Infer(program)
		if err != api.OK {
			fmt.Println(err, "at", at)
			continue
		}
		fmt.Println(types.Text(program.Body.Type), program.Body.Row.Labels)
	}
	// Output:
	// '1 -> <|1> '1 [console]
	// (int -> <State|1> '1) -> <State|1> '1 [console]
	// int [console]
	// error 5 at 11
}

func ExampleWalk() {
	program, _, _ := parse.Parse([]byte("let x = 1 in print x + 2"))
	fmt.Println(infer.Walk(program.Body, func(t api.Term) bool {
		fmt.Println(t.Kind, t.At)
		return t.Name != "print"
	}))
	// Output:
	// 7 0
	// 2 8
	// 10 13
	// 10 13
	// false
}
