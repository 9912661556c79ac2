package value_test

import (
	"fmt"

	"brocade/api"
	"brocade/value"
)

func ExampleText() {
	one, none := api.Value{Kind: api.ValInt, N: 1}, api.Value{Kind: api.ValCon, Name: "Nil"}
	v := api.Value{Kind: api.ValCon, Name: "Cons", Kids: []api.Value{one, none}}
	text, _ := value.Text(v)
	fmt.Println(text, value.Right(v), value.First(v), value.Same(v, none))
	_, err := value.Text(api.Value{})
	fmt.Println(err)
	// Output:
	// Cons(1, Nil) true true false
	// error 1
}

func ExampleOp() {
	v, there := value.Op("/", -7, 2)
	fmt.Println(v.Kind == api.ValInt, v.N, there)
	_, there = value.Op("/", -7, 0)
	fmt.Println(there)
	// Output:
	// true -3 true
	// false
}
