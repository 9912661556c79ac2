package print_test

import (
	"fmt"

	"brocade/api"
	"brocade/parse"
	"brocade/print"
)

func ExamplePrint() {
	program, _, _ := parse.Parse([]byte("data D{A}f x+1"))
	text, _ := print.Print(program)
	fmt.Println(text)
	program.Body.Name = "%"
	_, err := print.Print(program)
	fmt.Println(print.Right(program), err)
	// Output:
	// data D { A } ( f x ) + 1
	// false error 1
}

func ExampleTerm() {
	f, x, y := api.Term{Kind: api.TermVar, Name: "f"}, api.Term{Kind: api.TermVar, Name: "x"}, api.Term{Kind: api.TermVar, Name: "y"}
	inner := api.Term{Kind: api.TermApp, Kids: []api.Term{f, x}}
	text, _ := print.Term(api.Term{Kind: api.TermApp, Kids: []api.Term{inner, y}})
	fmt.Println(text)
	// Output: f x y
}
