package unify_test

import (
	"fmt"

	"brocade/api"
	"brocade/subst"
	"brocade/types"
	"brocade/unify"
)

func ExampleTypes() {
	one, two := api.Type{Kind: api.TypVar, Var: 1}, api.Type{Kind: api.TypVar, Var: 2}
	a := api.Type{Kind: api.TypFun, Args: []api.Type{one, two}, Row: api.Row{Var: 1}}
	b := api.Type{Kind: api.TypFun, Args: []api.Type{{Kind: api.TypInt}, {Kind: api.TypRef, Args: []api.Type{one}}}, Row: api.Row{Labels: []string{"E"}}}
	s, next, err := unify.Types(subst.None(), a, b, 3)
	fmt.Println(types.Text(s.Apply(a)), next, err == api.OK)
	_, _, err = unify.Types(s, two, api.Type{Kind: api.TypBool}, next)
	fmt.Println(err == api.ErrType)
	_, _, err = unify.Types(subst.None(), one, api.Type{Kind: api.TypRef, Args: []api.Type{one}}, 9)
	fmt.Println(err == api.ErrType)
	// Output:
	// int -> <E> ref int 3 true
	// true
	// true
}

func ExampleRows() {
	s, next, _ := unify.Rows(subst.None(), api.Row{Labels: []string{"E"}, Var: 1}, api.Row{Labels: []string{"F"}, Var: 2}, 9)
	one, _ := s.Row(1)
	two, _ := s.Row(2)
	fmt.Println(one, two, next)
	// Output: {[F] 9} {[E] 9} 10
}

func ExampleLarge() {
	t := api.Type{Kind: api.TypInt}
	for range api.MaxDeep - 1 {
		t = api.Type{Kind: api.TypRef, Args: []api.Type{t}}
	}
	fmt.Println(unify.Large(t), unify.Large(api.Type{Kind: api.TypRef, Args: []api.Type{t}}))
	// Output: false true
}
