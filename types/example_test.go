package types_test

import (
	"fmt"

	"brocade/api"
	"brocade/types"
)

func ExampleText() {
	whole, truth := api.Type{Kind: api.TypInt}, api.Type{Kind: api.TypBool}
	answers := api.Type{Kind: api.TypRef, Args: []api.Type{truth}}
	fmt.Println(types.Text(api.Type{Kind: api.TypFun, Args: []api.Type{whole, answers}, Row: api.Row{Labels: []string{"console"}, Var: 3}}))
	// Output: int -> <console|3> ref bool
}

func ExampleVars() {
	one, two := api.Type{Kind: api.TypVar, Var: 1}, api.Type{Kind: api.TypVar, Var: 2}
	t := api.Type{Kind: api.TypFun, Args: []api.Type{two, one}, Row: api.Row{Var: 3}}
	kinds, rows := types.Vars(t)
	fmt.Println(types.Text(t), kinds, rows, types.Depth(t), types.Right(t))
	// Output: '2 -> <|3> '1 [2 1] [3] 2 true
}

func ExampleLess() {
	r := types.Add(types.Add(api.Row{}, "Get"), "Get")
	once, there := types.Less(r, "Get")
	none, _ := types.Less(once, "Get")
	fmt.Println(r.Labels, once.Labels, there, types.Calm(once), types.Calm(none))
	// Output: [Get Get] [Get] true false true
}
