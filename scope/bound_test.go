package scope_test

import "testing"

// TestBound has each binder, and its names where they are bound and where they are not.
func TestBound(t *testing.T) {
	for _, body := range []string{
		"§x", "§_", "()", "7", "read ()", "fun x -> x", "fun x -> §y", "fun x -> fun y -> x y", "fun x -> fun x -> x", "(fun x -> x) §x", "§x (fun x -> x)",
		"fun _ -> §_", "fun _ -> 1", "fun x -> fun _ -> x", "fun _ -> fun x -> §_",
		"let x = 1 in x", "let x = §x in x", "let x = 1 in §y", "let x = 1 in let y = x in x + y", "(let x = 1 in x) + §x", "let x = 1 in let x = x in x",
		"let _ = 1 in §_", "let _ = §_ in 1", "let x = (let y = 1 in y) in §y", "let x = fun y -> y in x §y", "let _ = 1 in 2",
		"rec f x = f x in f", "rec f x = f in §x", "rec f x = x in §g", "rec f x = §y in f", "rec f f = f in f", "rec f x = x in f 1 (f §x)", "(rec f x = x in f) §f",
		"rec f _ = f in f", "rec f _ = §_ in f", "rec _ x = §_ x in 1", "rec _ x = x in §_", "rec _ x = x in §x", "rec _ _ = §_ in 1", "rec f x = (rec g y = f g x y in g f x §y) in f",
		"match Nil { Nil -> 1 ; Cons h t -> h + t }", "match Nil { Nil -> §h ; Cons h t -> h }", "match Nil { Nil -> 1 ; Cons h t -> h + §x }", "match §h { Nil -> 1 ; Cons h t -> h }",
		"match Nil { Nil -> 1 ; Cons _ t -> t }", "match Nil { Nil -> 1 ; Cons _ _ -> §_ }", "match Nil { Nil -> 1 ; Cons h _ -> h + §_ }", "match C { A a -> a ; B b c -> b + §a ; C -> 1 }",
		"fun h -> match h { Nil -> h ; Cons h t -> h t }", "(match Nil { Nil -> 1 ; Cons h t -> h }) + §t",
		"handle E 1 { return x -> x ; ask u k -> k u ; tell u k -> u k }", "handle E §x { return x -> x ; ask u k -> 1 ; tell u k -> 2 }", "handle E 1 { return x -> §u ; ask u k -> 1 ; tell u k -> 2 }",
		"handle E 1 { return x -> 1 ; ask u k -> §x ; tell u k -> 2 }", "handle E 1 { return x -> x ; ask u k -> u k ; tell v l -> §k }", "handle E 1 { return x -> x ; ask u k -> §v ; tell v l -> l }",
		"handle F 1 { return _ -> 1 }", "handle F 1 { return _ -> §_ }", "handle F 1 { return return1 -> return1 }",
		"handle E 1 { return x -> x ; ask _ k -> k 1 ; tell u _ -> u }", "handle E 1 { return x -> x ; ask _ k -> k §_ ; tell u _ -> u }", "handle E 1 { return x -> x ; ask _ k -> k ; tell u _ -> u §_ }",
		"fun ask -> ask", "§ask ()", "let print1 = 1 in print print1", "fun x -> if x then x else x", "fun x -> if x then §y else z", "fun x -> ask!(tell!§y)", "Cons(1, Cons(§x, y))",
		"fun x -> (fun y -> x y) §y x", "fun x -> ((fun x -> x) x)", "fun x -> let y = (fun x -> x) x in x y", "let x = 1 in (let x = 2 in x) + x",
		"fun x1 -> x1", "fun x1 -> §x", "fun x -> §x1", "fun x -> §xx", "fun a -> fun b -> fun c -> a b c §d a",
	} {
		wantMarked(t, body)
	}
}
