package subst_test

import (
	"testing"

	"brocade/api"
	"brocade/subst"
	"brocade/types"
)

// twice has the same type two times, so many times over.
func twice(inmost api.Type, happens api.Row, deep int) api.Type {
	for range deep - 1 {
		inmost = fun(inmost, happens, inmost)
	}
	return inmost
}

// circle is a type that comes back to itself behind so many others.
func circle(count int) api.Type {
	links := make([]api.Type, count)
	for i := range links {
		links[i] = fun(variable(1), row(1, "E"), api.Type{})
	}
	for i := range links {
		links[i].Args[1] = links[(i+1)%count]
	}
	return links[0]
}

// same tells whether two types are, in no more steps than they have places.
func same(t *testing.T, what any, got, want api.Type) {
	t.Helper()
	if !types.Same(got, want) {
		t.Fatalf("%v is another type", what)
	}
}

// TestShared has types that are within each other more often than anyone could count, handed in and said.
func TestShared(t *testing.T) {
	whole := kind(api.TypInt)
	for _, deep := range []int{2, 10, 15, 16, 17, 18, 30, 200} {
		x := twice(variable(1), row(1, "E"), deep)
		s := subst.None().SetType(1, whole).SetRow(1, row(2, "D"))
		same(t, deep, s.Apply(x), twice(whole, row(2, "D", "E"), deep))
		u := subst.None().SetType(3, x).SetType(4, whole)
		said, known := u.Type(3)
		same(t, deep, said, x)
		if !known || types.Depth(said) != deep {
			t.Fatalf("%d deep: %d", deep, types.Depth(said))
		}
		same(t, deep, u.Apply(fun(variable(3), row(1), ref(variable(3)))), fun(x, row(1), ref(x)))
		same(t, deep, u.Apply(twice(variable(3), row(3), 190)), twice(x, row(3), 190))
		same(t, deep, u.Then(s).Apply(ref(variable(3))), ref(twice(whole, row(2, "D", "E"), deep)))
		same(t, deep, subst.None().SetType(1, variable(3)).Then(u).Apply(variable(1)), x)
	}
}

// TestSaidTwice: what is said of a variable becomes twice as large again and again.
func TestSaidTwice(t *testing.T) {
	const last = 90
	s := subst.None()
	for n := 1; n < last; n++ {
		s = s.Then(subst.None().SetType(n, fun(variable(n+1), row(0, "E"), variable(n+1))))
	}
	for n := 1; n < last; n++ {
		said, known := s.Type(n)
		same(t, n, said, twice(variable(last), row(0, "E"), last+1-n))
		if !known {
			t.Fatalf("nothing is said of %d", n)
		}
	}
	same(t, "all", s.Apply(variable(1)), twice(variable(last), row(0, "E"), last))
	all := s.Then(subst.None().SetType(last, kind(api.TypUnit)))
	same(t, "all", all.Apply(variable(1)), twice(kind(api.TypUnit), row(0, "E"), last))
}

// TestLarge has types that are large, with none of their lists in two places.
func TestLarge(t *testing.T) {
	var full func(deep int, leaf api.Type, happens api.Row) api.Type
	full = func(deep int, leaf api.Type, happens api.Row) api.Type {
		if deep == 1 {
			return leaf
		}
		return fun(full(deep-1, leaf, happens), happens, full(deep-1, leaf, happens))
	}
	s := subst.None().SetType(1, full(5, variable(1), row(1))).SetRow(1, row(1, "E"))
	for _, deep := range []int{2, 4, 6, 8, 10, 11, 12, 15} {
		got := s.Apply(full(deep, variable(1), row(1, "F")))
		wanted := full(deep, full(5, variable(1), row(1)), row(1, "E", "F"))
		same(t, deep, got, wanted)
		if types.Text(got) != types.Text(wanted) {
			t.Fatalf("%d deep: another text", deep)
		}
	}
}

// TestSharedSelf: what is said is put into itself once, though it is large, and both are the same lists.
func TestSharedSelf(t *testing.T) {
	for _, deep := range []int{3, 9, 12, 60} {
		x := twice(variable(1), row(1, "E"), deep)
		s := subst.None().SetType(1, x).SetRow(1, row(1, "F"))
		said, _ := s.Then(s).Type(1)
		same(t, deep, said, twice(x, row(1, "E", "F"), deep))
	}
}

// TestBeginnings: of a large type some lists are beginnings of other ones.
func TestBeginnings(t *testing.T) {
	happens := row(1)
	args := []api.Type{twice(variable(1), happens, 12), variable(2)}
	x := api.Type{Kind: api.TypFun, Args: args, Row: happens}
	whole, said := kind(api.TypInt), twice(kind(api.TypInt), happens, 12)
	s := subst.None().SetType(1, whole)
	held := api.Type{Kind: api.TypRef, Args: args[:1]}
	same(t, "the beginning first", s.Apply(fun(held, happens, x)), fun(ref(said), happens, fun(said, happens, variable(2))))
	same(t, "the whole first", s.Apply(fun(x, happens, held)), fun(fun(said, happens, variable(2)), happens, ref(said)))
}

// TestWrong: types that are not right, and such as stand within themselves: all calls end.
func TestWrong(t *testing.T) {
	self := []api.Type{variable(1), variable(2)}
	self[1] = api.Type{Kind: api.TypFun, Args: self, Row: row(1)}
	wrong := []api.Type{{}, {Kind: 99}, {Kind: api.TypVar}, {Kind: api.TypRef}, {Kind: api.TypVar, Var: 1, Args: self}, {Kind: api.TypInt, Args: self}, self[1], circle(1), circle(2), circle(2000), ref(circle(3)), fun(self[1], row(-1, "F", "E"), self[1])}
	s := subst.None()
	for i, x := range wrong {
		s = s.SetType(i, x).SetType(-i, ref(x)).SetRow(i, x.Row)
		for _, u := range []subst.Subst{s, s.Then(s), subst.None().SetType(1, x).Then(s), subst.None().SetType(1, kind(api.TypInt))} {
			u.Apply(x)
			u.ApplyRow(x.Row)
			u.Vars()
			u.Type(i)
			u.Row(i)
			u.Apply(fun(variable(1), row(1), variable(i)))
		}
	}
	end := subst.None().SetType(1, kind(api.TypBool)).SetRow(1, row(0))
	if got := end.Apply(circle(7)); got.Args[0].Kind != api.TypBool || got.Args[1].Row.Var != 0 || got.Args[1].Args[1].Args[0].Kind != api.TypBool {
		t.Errorf("%+v", got.Args[0])
	}
}

// TestFarDown: no type is too deep.
func TestFarDown(t *testing.T) {
	const deep = 1 << 17
	x, want := variable(1), fun(variable(2), row(3), variable(1))
	for range deep {
		x, want = ref(x), ref(want)
	}
	s := subst.None().SetType(1, fun(variable(2), row(3), variable(1)))
	same(t, "far down", s.Apply(x), want)
	same(t, "far down", subst.None().SetType(5, x).Then(s).Apply(variable(5)), want)
	s.Apply(circle(deep))
}
