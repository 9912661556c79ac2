package lex_test

import (
	"fmt"

	"brocade/lex"
)

func ExampleLex() {
	words, _, _ := lex.Lex([]byte("get!x->y # a note"))
	fmt.Println(len(words), lex.Text(words))
	_, at, err := lex.Lex([]byte("1 > 0"))
	fmt.Println(at, err)
	// Output:
	// 4 get! x -> y
	// 2 error 2
}
