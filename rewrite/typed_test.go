package rewrite_test

import (
	"testing"

	"brocade/api"
	"brocade/check"
	"brocade/infer"
	"brocade/parse"
	"brocade/rewrite"
	"brocade/types"
)

// TestTyped: a program with types is right with other names, and is inferred to have just the same ones.
func TestTyped(t *testing.T) {
	const declarations = "effect E { ask : unit -> int ; tell : int -> unit } data L { Nil ; Cons int L } "
	for _, body := range []string{
		"let x = fun x -> x in x (x 1)",
		"rec f x = if x < 1 then 0 else f (x - 1) in let f = f in f 3",
		"rec f l = match l { Nil -> Nil; Cons x l -> Cons(x + 1, f l) } in f (Cons(1, Nil))",
		"handle E (let x = ask! () in tell! (x + 1)) { return x -> 1; ask x k -> k 2; tell x k -> let _ = print x in k () }",
		"let r = ref (fun x -> x + 1) in let _ = r := (fun _ -> 2) in (!r) 1",
		"match Nil { Nil -> fun x -> fun x -> x; Cons _ _ -> fun y -> fun _ -> y }",
	} {
		p, at, err := parse.Parse([]byte(declarations + body))
		if err == api.OK {
			p, at, err = infer.Infer(p)
		}
		if err != api.OK {
			t.Fatalf("%s: %v at %d", body, err, at)
		}
		apart := p
		apart.Body = rewrite.Apart(p.Body)
		at, err = check.Check(apart)
		want(t, body, []any{at, err}, []any{0, api.OK})
		again, _, err := infer.Infer(apart)
		want(t, body, []any{again, err}, []any{apart, api.OK})
		want(t, body, types.Same(apart.Body.Type, p.Body.Type), true)
		wantAlike(t, body, p.Body, check.Erase(apart).Body, true)
	}
}
