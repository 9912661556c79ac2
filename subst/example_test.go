package subst_test

import (
	"fmt"

	"brocade/api"
	"brocade/subst"
	"brocade/types"
)

func ExampleSubst_Apply() {
	one := subst.None().SetType(1, api.Type{Kind: api.TypInt})
	first, second := api.Type{Kind: api.TypVar, Var: 1}, api.Type{Kind: api.TypVar, Var: 2}
	fmt.Println(types.Text(one.Apply(api.Type{Kind: api.TypFun, Args: []api.Type{first, second}})))
	// Output: int -> '2
}

func ExampleSubst_ApplyRow() {
	s := subst.None().SetRow(1, api.Row{Labels: []string{"E"}, Var: 2})
	r := s.ApplyRow(api.Row{Labels: []string{"D", "F"}, Var: 1})
	fmt.Println(r.Labels, r.Var)
	// Output: [D E F] 2
}

func ExampleSubst_Then() {
	first, second := api.Type{Kind: api.TypVar, Var: 1}, api.Type{Kind: api.TypVar, Var: 2}
	one := subst.None().SetType(1, api.Type{Kind: api.TypRef, Args: []api.Type{second}})
	both := one.Then(subst.None().SetType(2, api.Type{Kind: api.TypBool}))
	fmt.Println(types.Text(both.Apply(first)), types.Text(both.Apply(second)))
	fmt.Println(both.Vars())
	// Output:
	// ref bool bool
	// [1 2] []
}
