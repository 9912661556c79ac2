package check_test

import (
	"fmt"

	"brocade/api"
	"brocade/check"
	"brocade/infer"
	"brocade/parse"
)

func ExampleCheck() {
	program, _, _ := parse.Parse([]byte("let id = fun x -> x in id 1"))
	program, _, _ = infer.Infer(program)
	fmt.Println(check.Check(program))
	program.Body.Kids[1].Kids[1].Type = api.Type{Kind: api.TypBool} // the 1
	fmt.Println(check.Check(program))
	// Output:
	// 0 error 0
	// 23 error 5
}

func ExampleErase() {
	program, _, _ := parse.Parse([]byte("1"))
	program, _, _ = infer.Infer(program)
	bare := check.Erase(program)
	fmt.Println(program.Body.Type.Kind, program.Body.Row.Labels, bare.Body.Type.Kind, bare.Body.Row.Labels)
	fmt.Println(check.Check(bare))
	// Output:
	// 1 [console] 0 []
	// 0 error 5
}
