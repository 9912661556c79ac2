package unify_test

import (
	"testing"

	"brocade/api"
	"brocade/subst"
	"brocade/types"
	"brocade/unify"
)

// twice has the same type two times, so many times over.
func twice(inmost api.Type, happens api.Row, deep int) api.Type {
	for range deep - 1 {
		inmost = fun(inmost, happens, inmost)
	}
	return inmost
}

// circle is a type that comes back to itself behind so many others.
func circle(count int, takes api.Type) api.Type {
	links := make([]api.Type, count)
	for i := range links {
		links[i] = fun(takes, row(1, "E"), api.Type{})
	}
	for i := range links {
		links[i].Args[1] = links[(i+1)%count]
	}
	return links[0]
}

// TestShared has types that are within each other more often than anyone could count.
func TestShared(t *testing.T) {
	whole, happens := kind(api.TypInt), row(0, "E")
	for _, deep := range []int{2, 5, 9, 10, 11, 30, 200} {
		one, other := twice(variable(1), row(1, "E"), deep), twice(variable(2), row(2, "E"), deep)
		s, _, err := unify.Types(subst.None(), one, other, 9)
		if err != api.OK || told(s) != "'1 = '2; |1 = <|2>" || !types.Same(s.Apply(one), s.Apply(other)) {
			t.Errorf("%d deep: %v, %s", deep, err, told(s))
		}
		if s, _, err = unify.Types(subst.None(), one, twice(whole, happens, deep), 9); err != api.OK || told(s) != "'1 = int; |1 = <>" {
			t.Errorf("%d deep: %v, %s", deep, err, told(s))
		}
		many := 1<<min(deep, 30)-1 > 1000
		wantErr(t, deep, subst.None(), variable(3), one, errIf(many, api.ErrLimit))
		wantErr(t, deep, subst.None().SetType(3, variable(4)), one, ref(variable(3)), api.ErrType)
		wantErr(t, deep, subst.None(), one, twice(variable(2), row(1, "F"), deep), api.ErrType)
		wantErr(t, deep, subst.None(), one, variable(1), api.ErrType)
		if unify.Large(one) != many {
			t.Errorf("%d deep: large is %v", deep, !many)
		}
	}
	wantErr(t, "unlike at the end", subst.None(), fun(twice(variable(1), happens, 199), happens, whole), fun(twice(variable(2), happens, 199), happens, ref(whole)), api.ErrType)
}

// TestDoubled: each variable is twice the next one; what is said of the first one is large soon.
func TestDoubled(t *testing.T) {
	s := subst.None()
	for n := 1; n < 40; n++ {
		got, _, err := unify.Types(s, variable(n), fun(variable(n+1), row(0), variable(n+1)), 99)
		if want := errIf(n > 8, api.ErrLimit); err != want { // the first one has 1 + 2 + 4 .. pieces: 511, and then 1023
			t.Fatalf("%d: %v", n, err)
		}
		if s = got; err != api.OK {
			break
		}
	}
	for count := 1; count < 40; count++ {
		one, other := kind(api.TypInt), kind(api.TypInt)
		for n := count; n > 0; n-- {
			one, other = fun(variable(n), row(0), one), fun(fun(variable(n+1), row(0), variable(n+1)), row(0), other)
		}
		wantErr(t, count, subst.None(), one, other, errIf(count > 8, api.ErrLimit))
	}
}

// TestWrong: whatever is handed in, all calls end, and answer what was handed in beside an error.
func TestWrong(t *testing.T) {
	self := []api.Type{variable(1), variable(2)}
	self[1] = api.Type{Kind: api.TypFun, Args: self, Row: row(1)}
	both := []api.Type{{}, {}}
	both[0], both[1] = fun(self[1], row(2), self[1]), fun(self[1], row(2), self[1])
	both[0].Args, both[1].Args = both, both
	wrong := []api.Type{
		{}, {Kind: -1}, {Kind: 99}, {Kind: api.TypVar}, {Kind: api.TypVar, Var: -1}, {Kind: api.TypVar, Var: 1, Args: self}, {Kind: api.TypVar, Var: 1, Name: "D"},
		{Kind: api.TypRef}, {Kind: api.TypRef, Args: self}, {Kind: api.TypFun}, {Kind: api.TypFun, Args: self[:1]}, {Kind: api.TypFun, Args: make([]api.Type, 3)}, {Kind: api.TypInt, Args: self},
		fun(variable(1), row(-1, "F", "E", ""), variable(2)), fun(variable(1), row(1, "", "E", "D"), variable(2)), self[1], both[0], fun(both[0], row(1), both[1]),
		circle(1, variable(1)), circle(2, variable(1)), circle(3, variable(2)), circle(1000, variable(1)), circle(1001, kind(api.TypInt)), fun(circle(5, variable(3)), row(1), circle(7, variable(4))),
		refs(300, variable(1)), refs(300, variable(2)), refs(1000, kind(api.TypInt)), refs(1001, kind(api.TypInt)), twice(variable(1), row(1), 500), twice(variable(2), row(1), 501),
	}
	for i, a := range wrong {
		unify.Large(a)
		for j, b := range wrong {
			for _, s := range []subst.Subst{subst.None(), subst.None().SetType(1, a).SetType(-1, b).SetType(2, variable(1)).SetRow(1, b.Row)} {
				got, next, err := unify.Types(s, a, b, 3)
				if err != api.OK && (next != 3 || !says(got, s)) {
					t.Errorf("%d and %d: %v, %d", i, j, err, next)
				}
				got, next, err = unify.Rows(s, a.Row, b.Row, 3)
				if err != api.OK && (next != 3 || !says(got, s)) {
					t.Errorf("%d and %d, rows: %v, %d", i, j, err, next)
				}
			}
		}
	}
}

// TestFarDown: types that are deeper than is right, or wide, end too.
func TestFarDown(t *testing.T) {
	const deep = 1 << 17
	one, other := variable(1), variable(2)
	for range deep {
		one, other = fun(kind(api.TypInt), row(1), one), fun(kind(api.TypInt), row(2), other)
	}
	unify.Types(subst.None(), one, other, 9)
	unify.Types(subst.None(), one, ref(other), 9)
	unify.Types(subst.None(), one, variable(1), 9)
	unify.Types(subst.None().SetType(3, one).SetType(4, other), variable(3), variable(4), 9)
	unify.Types(subst.None(), circle(deep, variable(1)), circle(deep+1, variable(2)), 9)
	if !unify.Large(one) || !unify.Large(circle(deep, variable(1))) || !unify.Large(api.Type{Kind: api.TypFun, Args: make([]api.Type, deep)}) {
		t.Errorf("these are not large")
	}
}

// TestRound: s says of variables what they stand in themselves, so that what is within is made of them again
// and again. All calls end; and types that have an end there are followed to it.
func TestRound(t *testing.T) {
	pair := func(is func(api.Type) api.Type) subst.Subst {
		return subst.None().SetType(1, is(variable(1))).SetType(2, is(variable(2)))
	}
	for i, is := range []func(api.Type) api.Type{
		ref,
		func(t api.Type) api.Type { return refs(2, t) },
		func(t api.Type) api.Type { return refs(199, t) },
		func(t api.Type) api.Type { return fun(t, row(1, "E"), t) },
		func(t api.Type) api.Type { return fun(kind(api.TypInt), row(1, "E"), t) },
		func(t api.Type) api.Type { return fun(ref(t), row(0), fun(ref(t), row(0), t)) },
		func(t api.Type) api.Type { return sized(999, t) },
	} {
		s := pair(is).SetRow(1, row(1, "F"))
		got, next, err := unify.Types(s, variable(1), variable(2), 9)
		if err == api.OK || next != 9 || !says(got, s) {
			t.Errorf("%d: %v, %d", i, err, next)
		}
	}
	s := subst.None().SetType(1, refs(199, variable(1))).SetType(2, fun(refs(198, variable(2)), row(0), kind(api.TypInt)))
	wantErr(t, "unlike", s, refs(199, variable(1)), ref(fun(refs(197, variable(2)), row(0), kind(api.TypInt))), api.ErrType)
	s = pair(ref)
	wantErr(t, "an end", s, variable(1), refs(150, kind(api.TypInt)), api.ErrType)
	wantErr(t, "an end", s, refs(150, variable(3)), variable(1), api.OK)
	wantErr(t, "an end", s, refs(150, variable(3)), refs(10, variable(1)), api.OK)
	for _, count := range []int{2, 3, 9} {
		s := subst.None().SetType(1, refs(count, variable(1)))
		wantErr(t, count, s, variable(1), refs(199, kind(api.TypInt)), api.ErrType)
		wantErr(t, count, s, refs(199, kind(api.TypInt)), variable(1), api.ErrType)
		wantErr(t, count, s, variable(1), refs(199, variable(2)), api.ErrLimit)
	}
}

// TestLong: what is said of variables is as deep as it may be, and so is where they stand.
func TestLong(t *testing.T) {
	whole := kind(api.TypInt)
	long := func(n int, in api.Type) api.Type {
		in = refs(199-n%2, in)
		if n%2 == 1 {
			return fun(whole, row(0, "E"), in)
		}
		return in
	}
	for n := range 2 {
		s := subst.None().SetType(1, long(n, variable(2))).SetType(3, long(n, variable(4)))
		got, next, err := unify.Types(s, long(n, variable(1)), long(n, variable(3)), 9)
		if err != api.OK || next != 9 || !says(got, s.Then(subst.None().SetType(2, variable(4)))) {
			t.Errorf("%d: %v, %d", n, err, next)
		}
		wantErr(t, n, s, long(n, variable(1)), long(n, long(n, whole)), api.OK)
		wantErr(t, n, s, long(n, variable(1)), long(n, long(n, ref(whole))), api.ErrLimit)
		wantErr(t, n, s.SetType(4, whole).SetType(3, long(n, whole)).SetType(2, ref(whole)).SetType(1, long(n, whole)), long(n, variable(1)), long(n, variable(3)), api.OK)
	}
}
