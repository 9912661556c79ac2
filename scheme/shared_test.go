package scheme_test

import (
	"strconv"
	"testing"

	"brocade/api"
	"brocade/scheme"
	"brocade/types"
)

// twice has the same type two times, so many times over.
func twice(inmost api.Type, happens api.Row, deep int) api.Type {
	for range deep - 1 {
		inmost = fun(inmost, happens, inmost)
	}
	return inmost
}

func refs(count int, inmost api.Type) api.Type {
	for range count {
		inmost = ref(inmost)
	}
	return inmost
}

// circle is a type that comes back to itself behind so many others.
func circle(count int, takes api.Type) api.Type {
	links := make([]api.Type, count)
	for i := range links {
		links[i] = fun(takes, row(1, "E"), api.Type{})
	}
	for i := range links {
		links[i].Args[1] = links[(i+1)%count]
	}
	return links[0]
}

// apart is like twice, but both are lists of their own on each level.
func apart(inmost api.Type, happens api.Row, deep int) api.Type {
	one, other := inmost, inmost
	for range deep - 1 {
		one, other = fun(one, happens, other), fun(one, happens, other)
	}
	return one
}

// TestShared has types that are within each other more often than anyone could count.
func TestShared(t *testing.T) {
	for _, deep := range []int{2, 5, 9, 10, 11, 30, 200} {
		for _, build := range []func(api.Type, api.Row, int) api.Type{twice, apart} {
			x := build(variable(1), row(1, "E"), deep)
			s := scheme.General([]scheme.Scheme{scheme.Bare(variable(2))}, x)
			if listed(s.Types, s.Rows) != "'1 |1" || !types.Same(s.Type, x) || listed(scheme.Free(s)) != "" || listed(scheme.Free(scheme.Bare(x))) != "'1 |1" {
				t.Errorf("%d deep: %v, %v", deep, s.Types, s.Rows)
			}
			fresh, next := scheme.Fresh(s, 8)
			if !types.Same(fresh, build(variable(8), row(9, "E"), deep)) || next != 10 {
				t.Errorf("%d deep: fresh is not what it has to be", deep)
			}
			whole := kind(api.TypInt)
			for _, other := range []func(api.Type, api.Row, int) api.Type{twice, apart} {
				are := []api.Type{x, fresh, other(whole, row(0, "E"), deep), other(ref(whole), row(2, "D", "E"), deep), other(x, row(1, "E"), 2)}
				not := []api.Type{other(whole, row(0), deep), other(whole, row(0, "E"), deep-1), fun(other(whole, row(0, "E"), deep-1), row(0, "E"), other(kind(api.TypBool), row(0, "E"), deep-1)), ref(x)}
				wantInstances(t, s, deep, true, are...)
				wantInstances(t, s, deep, false, not...)
			}
		}
	}
}

func wantInstances(t *testing.T, s scheme.Scheme, what any, want bool, all ...api.Type) {
	t.Helper()
	for i, x := range all {
		if scheme.Instance(s, x) != want {
			t.Errorf("%v: %d is an instance: %v", what, i, !want)
		}
	}
}

// TestListsWithin: a ref and a function may have lists that begin in the same place, and have nothing to do with each other.
func TestListsWithin(t *testing.T) {
	args, others := []api.Type{variable(1), variable(2)}, []api.Type{kind(api.TypInt), kind(api.TypBool)}
	of := func(l []api.Type) api.Type {
		return fun(api.Type{Kind: api.TypRef, Args: l[:1]}, row(0), api.Type{Kind: api.TypFun, Args: l})
	}
	s := scheme.Scheme{Types: []int{1}, Type: of(args)}
	wantInstances(t, s, "lists within", false, of(others), readType(t, "ref int -> int -> bool"))
	others[1] = variable(2)
	wantInstances(t, s, "lists within", true, of(others), readType(t, "ref int -> int -> '2"))
	turned := func(l []api.Type) api.Type {
		return fun(api.Type{Kind: api.TypFun, Args: l}, row(0), api.Type{Kind: api.TypRef, Args: l[:1]})
	}
	s.Type = turned(args)
	wantInstances(t, s, "turned", true, turned(others))
	others[1] = variable(1)
	wantInstances(t, s, "turned", false, turned(others))
}

// TestDeep is at what is right at most, from below; and what is above it is no other.
func TestDeep(t *testing.T) {
	for _, count := range []int{198, 199, 200, 1000} {
		s := scheme.General(nil, refs(count, variable(1)))
		fresh, next := scheme.Fresh(s, 5)
		if len(s.Types) != 1 || !types.Same(fresh, refs(count, variable(5))) || next != 6 {
			t.Errorf("%d refs: %v", count, s.Types)
		}
		wantInstances(t, s, count, true, fresh, refs(count, kind(api.TypInt)), refs(count+1, kind(api.TypInt)))
		wantInstances(t, s, count, false, refs(count-1, variable(1)), refs(count-1, kind(api.TypInt)))
	}
}

// TestWide has many variables, and many labels.
func TestWide(t *testing.T) {
	var labels []string
	for n := range 1 << 16 {
		labels = append(labels, strconv.Itoa(1<<17+n))
	}
	s := readScheme(t, "|1: int -> <|1> int -> <E|1> int")
	wide := fun(kind(api.TypInt), row(2, labels...), fun(kind(api.TypInt), row(2, append(labels[:len(labels):len(labels)], "E")...), kind(api.TypInt)))
	wantInstances(t, s, "labels", true, wide)
	wantInstances(t, scheme.Bare(wide), "labels", true, wide)
	wantInstances(t, scheme.General(nil, wide), "labels", true, wide)
	next := 0
	tree := wideTree(16, func() api.Type { next++; return variable(next) })
	s = scheme.General([]scheme.Scheme{scheme.Bare(variable(7))}, tree)
	fresh, after := scheme.Fresh(s, next+1)
	if len(s.Types) != next-1 || after != 2*next {
		t.Errorf("%d of %d are bound, %d is next", len(s.Types), next, after)
	}
	wantInstances(t, s, "variables", true, tree, fresh)
	wantInstances(t, s, "variables", false, wideTree(16, func() api.Type { return variable(8) }))
	wantInstances(t, s, "variables", true, wideTree(16, func() api.Type { return variable(7) }))
}

// wideTree is functions of functions, with what is made at its ends.
func wideTree(deep int, end func() api.Type) api.Type {
	if deep == 0 {
		return end()
	}
	return fun(wideTree(deep-1, end), row(0), wideTree(deep-1, end))
}

// TestWrong: whatever is handed in, all calls end (R2).
func TestWrong(t *testing.T) {
	self := []api.Type{variable(1), variable(2)}
	self[1] = api.Type{Kind: api.TypFun, Args: self, Row: row(1)}
	both := []api.Type{{}, {}}
	both[0], both[1] = fun(self[1], row(2), self[1]), fun(self[1], row(2), self[1])
	both[0].Args, both[1].Args = both, both
	wrong := []api.Type{
		{}, {Kind: -1}, {Kind: 99}, {Kind: api.TypVar}, {Kind: api.TypVar, Var: -1}, {Kind: api.TypVar, Var: 1, Args: self}, {Kind: api.TypVar, Var: 1, Name: "D"}, {Kind: api.TypInt, Row: row(1, "E")},
		{Kind: api.TypRef}, {Kind: api.TypRef, Args: self}, {Kind: api.TypFun}, {Kind: api.TypFun, Args: self[:1]}, {Kind: api.TypFun, Args: make([]api.Type, 3)}, {Kind: api.TypInt, Args: self},
		fun(variable(1), row(-1, "F", "E", ""), variable(2)), fun(variable(1), row(1, "", "E", "D"), variable(2)), self[1], both[0], fun(both[0], row(1), both[1]),
		circle(1, variable(1)), circle(2, variable(1)), circle(3, variable(2)), circle(100, variable(1)), circle(101, kind(api.TypInt)), fun(circle(5, variable(3)), row(1), circle(7, variable(4))),
		refs(300, variable(1)), refs(300, variable(2)), twice(variable(1), row(1), 500), twice(variable(2), row(1), 501), apart(variable(2), row(1), 501),
	}
	for _, a := range wrong {
		scheme.Bare(a)
		for _, bound := range [][]int{nil, {1}, {2, 1}, {0, -1, 1, 1, 2, 3}} {
			s := scheme.Scheme{Types: bound, Rows: bound, Type: a}
			scheme.Free(s)
			scheme.Fresh(s, -1)
			scheme.Fresh(s, 2)
			if !scheme.Instance(s, a) && !unsorted(a.Row) {
				t.Errorf("%.200v is no instance of itself", a.Kind)
			}
			for _, b := range wrong {
				scheme.Instance(s, b)
				scheme.General([]scheme.Scheme{s}, b)
			}
		}
	}
}

func unsorted(r api.Row) bool { return len(r.Labels) > 1 && r.Labels[0] != r.Labels[1] }

// TestFarDown: types that are deeper than is right, or stand within themselves, end too.
func TestFarDown(t *testing.T) {
	const deep = 1 << 16
	one, other := variable(1), variable(2)
	for range deep {
		one, other = fun(kind(api.TypInt), row(1), one), fun(kind(api.TypInt), row(2), other)
	}
	s := scheme.General(nil, one)
	wantInstances(t, s, "far down", true, one, other)
	wantInstances(t, s, "far down", false, refs(deep, variable(1)), variable(1))
	fresh, _ := scheme.Fresh(s, 9)
	wantInstances(t, s, "far down", true, fresh)
	wantInstances(t, scheme.General(nil, circle(500, variable(1))), "circles", true, circle(500, kind(api.TypInt)), circle(501, kind(api.TypInt)), circle(7, ref(variable(1))))
}

// TestNoNumber: a closed row has no variable, and neither has int, whatever is bound.
func TestNoNumber(t *testing.T) {
	s := scheme.Scheme{Types: []int{0}, Rows: []int{0}, Type: readType(t, "int -> <E> int")}
	wantInstances(t, s, "closed", true, s.Type)
	wantInstances(t, s, "closed", false, readType(t, "int -> <E,F> int"), readType(t, "int -> <E|1> int"), readType(t, "bool -> <E> bool"), kind(api.TypBool))
	if fresh, _ := scheme.Fresh(s, 9); !types.Same(fresh, s.Type) {
		t.Error(types.Text(fresh))
	}
}

// TestUnsorted: the scheme's type may have rows out of order; what is made of it has them in order.
func TestUnsorted(t *testing.T) {
	s := scheme.Scheme{Rows: []int{1}, Type: fun(kind(api.TypInt), row(1, "G", "E"), fun(kind(api.TypInt), row(2, "F", "E"), kind(api.TypInt)))}
	wantInstances(t, s, "out of order", true, readType(t, "int -> <E,G> int -> <E,F|2> int"), readType(t, "int -> <E,F,G,H|3> int -> <E,F|2> int"))
	wantInstances(t, s, "out of order", false, s.Type, readType(t, "int -> <E> int -> <E,F|2> int"), readType(t, "int -> <E,G> int -> <F|2> int"))
}
