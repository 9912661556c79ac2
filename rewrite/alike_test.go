package rewrite_test

import (
	"testing"

	"brocade/api"
	"brocade/rewrite"
)

// TestAlike has terms that are alike, and terms that are not.
func TestAlike(t *testing.T) {
	for _, one := range []struct {
		a, b  string
		alike bool
	}{
		{"x", "x", true}, {"x", "y", false}, {"1", "1", true}, {"1", "2", false}, {"true", "true", true}, {"true", "false", false}, {"()", "()", true}, {"1", "true", false}, {"0", "false", false}, {"()", "x", false},
		{"fun x -> x", "fun y -> y", true}, {"fun x -> x", "fun x -> y", false}, {"fun x -> y", "fun y -> y", false}, {"fun x -> z", "fun y -> z", true}, {"fun x -> y", "fun x -> z", false},
		{"fun x -> fun y -> x", "fun y -> fun x -> y", true}, {"fun x -> fun y -> x", "fun x -> fun x -> x", false}, {"fun x -> fun y -> y", "fun x -> fun x -> x", true}, {"fun x -> fun y -> x y", "fun x -> fun y -> y x", false},
		{"(fun x -> x) x", "(fun y -> y) x", true}, {"(fun x -> x) x", "(fun y -> y) y", false}, {"(fun x -> x) (fun x -> x)", "(fun x -> x) (fun y -> y)", true},
		{"f x", "f x", true}, {"f x", "x f", false}, {"f x y", "f (x y)", false},
		{"let x = 1 in x", "let y = 1 in y", true}, {"let x = 1 in x", "let y = 2 in y", false}, {"let x = x in x", "let y = x in y", true}, {"let x = x in x", "let y = y in y", false}, {"let x = 1 in x", "(fun x -> x) 1", false},
		{"rec f x = f x in f x", "rec g y = g y in g x", true}, {"rec f x = f x in f x", "rec g y = g y in g y", false}, {"rec f x = f in f", "rec f x = x in f", false}, {"rec f x = x in f", "rec x f = f in x", true}, {"rec x x = x in x", "rec f x = x in f", true}, {"rec x x = x in x", "rec f x = f in f", false}, {"rec x x = x in x", "rec f x = x in x", false},
		{"if a then b else c", "if a then b else c", true}, {"if a then b else c", "if a then c else b", false},
		{"1 + x", "1 + x", true}, {"1 + x", "1 - x", false}, {"1 + x", "x + 1", false}, {"print x", "ref x", false}, {"read ()", "read ()", true}, {"! x", "ref x", false},
		{"A", "A", true}, {"A", "B", false}, {"A(x)", "A(x)", true}, {"A(x)", "A", false}, {"A(x)", "A(x, x)", false}, {"A(x)", "B(x)", false}, {"A(fun x -> x, y)", "A(fun y -> y, y)", true}, {"A(fun x -> x, x)", "A(fun y -> y, y)", false},
		{"get! x", "get! x", true}, {"get! x", "put! x", false}, {"get! x", "get x", false},
		{"match x { }", "match x { }", true}, {"match x { }", "match y { }", false}, {"match x { A -> 1 }", "match x { }", false}, {"match x { A -> 1 }", "match x { B -> 1 }", false}, {"match x { A -> 1 }", "match x { A -> 2 }", false}, {"match x { A y -> 1 }", "match x { A z -> 1 }", true}, {"match x { A y -> 1 }", "match x { A -> 1 }", false}, {"match x { A -> 1; B -> 2 }", "match x { B -> 2; A -> 1 }", false},
		{"match x { A x y -> x y }", "match x { A y x -> y x }", true}, {"match x { A x y -> x y }", "match x { A y x -> x y }", false}, {"match x { A x y -> y; B x -> x }", "match x { A a b -> b; B b -> b }", true}, {"match x { A x -> 1; B y -> x }", "match x { A y -> 1; B z -> x }", true}, {"match x { A x -> 1; B y -> x }", "match x { A y -> 1; B x -> x }", false},
		{"match x { A y y -> y }", "match x { A a b -> b }", true}, {"match x { A y y -> y }", "match x { A a b -> a }", false}, {"match x { A y y z -> y }", "match x { A a b b -> b }", false},
		{"handle E x { return x -> x }", "handle E x { return y -> y }", true}, {"handle E x { return x -> x }", "handle F x { return x -> x }", false}, {"handle E x { return x -> x }", "handle E y { return y -> y }", false},
		{"handle E 1 { return x -> x; get x k -> k x }", "handle E 1 { return x -> x; get a b -> b a }", true}, {"handle E 1 { return x -> x; get x k -> k x }", "handle E 1 { return x -> x; get k x -> k x }", false}, {"handle E 1 { return x -> x; get x k -> k x }", "handle E 1 { return x -> x; put x k -> k x }", false}, {"handle E 1 { return x -> x; get x k -> k x }", "handle E 1 { return x -> x }", false},
		{"fun _ -> 1", "fun x -> 1", true}, {"fun _ -> x", "fun x -> x", false}, {"fun _ -> _", "fun x -> x", false}, {"fun _ -> _", "fun x -> _", true}, {"fun _ -> _", "fun _ -> _", true}, {"fun _ -> _", "fun _ -> x", false}, {"_", "_", true}, {"_", "x", false}, {"fun x -> fun _ -> x", "fun _ -> fun x -> _", false}, {"fun x -> fun _ -> x", "fun y -> fun z -> y", true},
		{"let _ = 1 in _", "let x = 1 in _", true}, {"let _ = 1 in _", "let x = 1 in x", false}, {"rec _ x = _ in _", "rec f x = _ in _", true}, {"rec _ x = _ in _", "rec f x = f in f", false}, {"rec f _ = _ in f", "rec f x = _ in f", true}, {"rec f _ = _ in f", "rec f x = x in f", false},
		{"match x { A _ _ -> 1 }", "match x { A x y -> 1 }", true}, {"match x { A _ _ -> _ }", "match x { A x y -> y }", false}, {"match x { A _ _ -> _ }", "match x { A x y -> x }", false}, {"match x { A _ _ -> _ }", "match x { A x y -> _ }", true}, {"match x { A _ y -> y }", "match x { A y _ -> y }", false}, {"match x { A _ y -> y }", "match x { A y x -> x }", true},
		{"handle E _ { return _ -> _ }", "handle E _ { return x -> _ }", true}, {"handle E _ { return _ -> _ }", "handle E _ { return x -> x }", false}, {"handle E 1 { return x -> x; get _ k -> k _ }", "handle E 1 { return x -> x; get x k -> k _ }", true}, {"handle E 1 { return x -> x; get _ k -> k _ }", "handle E 1 { return x -> x; get x k -> k x }", false},
	} {
		wantAlike(t, one.a+" and "+one.b, read(t, one.a), read(t, one.b), one.alike)
	}
}

// TestAlikeFields: two terms of each kind that differ in one thing; it matters, but for names that are bound, At, and
// what was inferred.
func TestAlikeFields(t *testing.T) {
	whole := api.Type{Kind: api.TypInt}
	for kind := -1; kind < 17; kind++ {
		form := func() api.Term {
			return api.Term{Kind: kind, Name: "x", Param: "y", N: 1, Kids: []api.Term{variable("z"), variable("z")}, Arms: []api.Arm{arm("A", variable("z"), "v", "w"), arm("B", variable("z"))}}
		}
		binds := kind == api.TermFun || kind == api.TermLet || kind == api.TermRec
		for what, one := range map[string]struct {
			change func(t *api.Term)
			alike  bool
		}{
			"nothing":    {func(t *api.Term) {}, true},
			"kind":       {func(t *api.Term) { t.Kind += 100 }, false},
			"at":         {func(t *api.Term) { t.At = 7 }, true},
			"type":       {func(t *api.Term) { t.Type = whole }, true},
			"row":        {func(t *api.Term) { t.Row = api.Row{Labels: []string{"E"}, Var: 2} }, true},
			"own":        {func(t *api.Term) { t.Own = whole }, true},
			"kid's at":   {func(t *api.Term) { t.Kids[1].At = 7 }, true},
			"kid's type": {func(t *api.Term) { t.Kids[1].Type = whole }, true},
			"name":       {func(t *api.Term) { t.Name = "other" }, binds},
			"no name":    {func(t *api.Term) { t.Name = "" }, binds},
			"param":      {func(t *api.Term) { t.Param = "other" }, kind == api.TermRec},
			"n":          {func(t *api.Term) { t.N = 2 }, false},
			"kid":        {func(t *api.Term) { t.Kids[0].Name = "other" }, false},
			"last kid":   {func(t *api.Term) { t.Kids[1].Name = "other" }, false},
			"less kids":  {func(t *api.Term) { t.Kids = t.Kids[:1] }, false},
			"no kids":    {func(t *api.Term) { t.Kids = nil }, false},
			"less arms":  {func(t *api.Term) { t.Arms = t.Arms[:1] }, false},
			"no arms":    {func(t *api.Term) { t.Arms = nil }, false},
			"arm":        {func(t *api.Term) { t.Arms[0].Name = "other" }, false},
			"last arm":   {func(t *api.Term) { t.Arms[1].Name = "other" }, false},
			"vars":       {func(t *api.Term) { t.Arms[0].Vars = []string{"a", "b"} }, true},
			"less vars":  {func(t *api.Term) { t.Arms[0].Vars = []string{"v"} }, false},
			"more vars":  {func(t *api.Term) { t.Arms[1].Vars = []string{"v"} }, false},
			"body":       {func(t *api.Term) { t.Arms[0].Body.Name = "other" }, false},
			"last body":  {func(t *api.Term) { t.Arms[1].Body.Name = "other" }, false},
		} {
			other := form()
			one.change(&other)
			wantAlike(t, []any{kind, what}, form(), other, one.alike)
		}
	}
}

// TestAlikeLists: a list without items is nil or empty.
func TestAlikeLists(t *testing.T) {
	none := api.Term{Kind: api.TermMatch, Kids: []api.Term{variable("x")}, Arms: []api.Arm{arm("A", variable("x"))}}
	empty := api.Term{Kind: api.TermMatch, Kids: []api.Term{{Kind: api.TermVar, Name: "x", Kids: []api.Term{}, Arms: []api.Arm{}}}, Arms: []api.Arm{{Name: "A", Vars: []string{}, Body: variable("x")}}}
	wantAlike(t, "empty", none, empty, true)
	want(t, "nothing", rewrite.Alike(api.Term{}, api.Term{}), true)
}

// TestAlikeNames: a name that is bound on one side alone is not the same, whatever else has that name.
func TestAlikeNames(t *testing.T) {
	inner := func(name string) api.Term { return fun("x", fun("y", variable(name))) }
	for _, a := range []string{"x", "y", "z", "", "x'1", "_"} {
		for _, b := range []string{"x", "y", "z", "", "x'1", "_"} {
			want(t, []any{a, b}, rewrite.Alike(inner(a), inner(b)), a == b)
			want(t, []any{a, b}, rewrite.Alike(variable(a), variable(b)), a == b)
			want(t, []any{a, b}, rewrite.Alike(fun(a, variable(a)), fun(b, variable(b))), (a == "_") == (b == "_"))
			want(t, []any{a, b}, rewrite.Alike(fun(a, variable(b)), fun(b, variable(b))), a == b || b == "_")
		}
	}
}
