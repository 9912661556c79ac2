package parse_test

import (
	"fmt"

	"brocade/parse"
)

func ExampleParse() {
	program, _, _ := parse.Parse([]byte("f x + 1"))
	fmt.Println(program.Body.Name, parse.Depth(program.Body))
	_, at, err := parse.Parse([]byte("1 < 2 < 3"))
	fmt.Println(at, err)
	// Output:
	// + 3
	// 6 error 3
}
