package code_test

import (
	"fmt"

	"brocade/api"
	"brocade/code"
)

func ExampleText() {
	f, x := api.Code{Kind: api.CodeVar, Name: "f"}, api.Code{Kind: api.CodeVar, Name: "x"}
	called := api.Code{Kind: api.CodeApp, Kids: []api.Code{f, {Kind: api.CodeInt, N: 1}}}
	fmt.Println(code.Text(api.Code{Kind: api.CodeBind, Name: "x", Kids: []api.Code{called, x}}))
	fmt.Println(code.Text(api.Code{Kind: api.CodeApp, Kids: []api.Code{called, x}}))
	// Output:
	// bind x { call f 1 } { x } error 0
	//  error 1
}

func ExampleFree() {
	x, y := api.Code{Kind: api.CodeVar, Name: "x"}, api.Code{Kind: api.CodeVar, Name: "y"}
	sum := api.Code{Kind: api.CodeOp, Name: "+", Kids: []api.Code{x, y}}
	c := api.Code{Kind: api.CodeFun, Name: "x", Kids: []api.Code{sum}}
	fmt.Println(code.Right(c), code.Free(sum), code.Free(c), code.Size(c))
	// Output:
	// true [x y] [y] 4
}
