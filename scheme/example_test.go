package scheme_test

import (
	"fmt"

	"brocade/api"
	"brocade/scheme"
	"brocade/types"
)

func ExampleGeneral() {
	one, two := api.Type{Kind: api.TypVar, Var: 1}, api.Type{Kind: api.TypVar, Var: 2}
	t := api.Type{Kind: api.TypFun, Args: []api.Type{one, two}, Row: api.Row{Labels: []string{"E"}, Var: 4}}
	s := scheme.General([]scheme.Scheme{scheme.Bare(two)}, t)
	fmt.Println(s.Types, s.Rows, types.Text(s.Type))
	fmt.Println(scheme.Free(s))
	// Output:
	// [1] [4] '1 -> <E|4> '2
	// [2] []
}

func ExampleFresh() {
	one, two := api.Type{Kind: api.TypVar, Var: 1}, api.Type{Kind: api.TypVar, Var: 2}
	t := api.Type{Kind: api.TypFun, Args: []api.Type{one, two}, Row: api.Row{Labels: []string{"E"}, Var: 4}}
	fresh, next := scheme.Fresh(scheme.Scheme{Types: []int{1}, Rows: []int{4}, Type: t}, 9)
	fmt.Println(types.Text(fresh), next)
	// Output: '9 -> <E|10> '2 11
}

func ExampleInstance() {
	one, two := api.Type{Kind: api.TypVar, Var: 1}, api.Type{Kind: api.TypVar, Var: 2}
	whole, truth := api.Type{Kind: api.TypInt}, api.Type{Kind: api.TypBool}
	s := scheme.Scheme{Types: []int{1}, Type: api.Type{Kind: api.TypFun, Args: []api.Type{one, two}}}
	fmt.Println(scheme.Instance(s, api.Type{Kind: api.TypFun, Args: []api.Type{whole, two}}))
	fmt.Println(scheme.Instance(s, api.Type{Kind: api.TypFun, Args: []api.Type{whole, truth}}))
	// Output:
	// true
	// false
}
