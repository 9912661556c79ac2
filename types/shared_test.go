package types_test

import (
	"testing"

	"brocade/api"
	"brocade/types"
)

// twice has the same type two times, so many times over.
func twice(inmost api.Type, happens api.Row, deep int) api.Type {
	for range deep - 1 {
		inmost = fun(inmost, happens, inmost)
	}
	return inmost
}

// TestShared has types that are within each other more often than anyone could count.
func TestShared(t *testing.T) {
	happens := row(2, "E")
	wantText(t, twice(variable(1), row(2, "E"), 3), "('1 -> <E|2> '1) -> <E|2> '1 -> <E|2> '1")
	x, y := twice(variable(1), happens, 200), twice(variable(1), happens, 200)
	if !types.Right(x) || types.Depth(x) != 200 || !types.Same(x, y) || !types.Same(x, x) || !types.Same(y, x) {
		t.Errorf("200 deep is not right")
	}
	wantVars(t, x, []int{1}, []int{2})
	wantVars(t, fun(x, row(5), fun(y, row(3), variable(9))), []int{1, 9}, []int{2, 5, 3})
	for _, other := range []api.Type{twice(variable(2), happens, 200), twice(variable(1), row(1, "E"), 200), twice(variable(1), happens, 199), twice(fun(variable(1), happens, variable(2)), happens, 199)} {
		if types.Same(x, other) || types.Same(other, x) || !types.Right(other) {
			t.Errorf("unlike types are the same")
		}
	}
	deeper := twice(variable(1), happens, 201)
	if types.Right(deeper) || types.Depth(deeper) != 201 || types.Text(deeper) != "" || types.Same(deeper, x) {
		t.Errorf("201 deep is right")
	}
	for _, wrong := range []api.Type{twice(api.Type{}, happens, 200), twice(variable(1), row(0, "F", "E"), 200)} {
		if types.Right(wrong) || types.Depth(wrong) != 200 || types.Text(wrong) != "" {
			t.Errorf("what is wrong within is right")
		}
	}
}

// TestSharedRows: a list of Args that stands at two functions stands behind the row of each of them.
func TestSharedRows(t *testing.T) {
	args := []api.Type{fun(variable(1), row(7), variable(2)), variable(3)}
	one, other := api.Type{Kind: api.TypFun, Args: args, Row: row(1)}, api.Type{Kind: api.TypFun, Args: args, Row: row(2)}
	wantVars(t, fun(one, row(3), other), []int{1, 2, 3}, []int{7, 1, 3, 2})
	wantVars(t, fun(api.Type{Kind: api.TypRef, Args: args[:1]}, row(4), one), []int{1, 2, 3}, []int{7, 4, 1})
	if types.Same(one, other) || !types.Same(one, fun(args[0], row(1), args[1])) || types.Right(api.Type{Kind: api.TypRef, Args: args}) {
		t.Errorf("the rows do not matter")
	}
	bad := []api.Type{variable(1), fun(variable(1), row(-1), variable(1))}
	if !types.Right(ref(bad[0])) || types.Right(fun(api.Type{Kind: api.TypRef, Args: bad[:1]}, row(1), api.Type{Kind: api.TypFun, Args: bad})) {
		t.Errorf("what is behind the beginning of a list does not matter")
	}
}

// circle is a type that comes back to itself behind so many others.
func circle(count int) api.Type {
	links := make([]api.Type, count)
	for i := range links {
		links[i] = api.Type{Kind: api.TypRef, Args: []api.Type{{}}}
	}
	for i := range links {
		links[i].Args[0] = links[(i+1)%count]
	}
	return links[0]
}

// TestCircles: types that stand within themselves are not right, and all calls end.
func TestCircles(t *testing.T) {
	self := fun(variable(1), row(1), variable(2))
	self.Args[1] = self
	both := fun(variable(1), row(1), variable(2))
	both.Args[0], both.Args[1] = both, both
	all := []api.Type{circle(1), circle(2), circle(300), circle(50000), circle(50001), self, both, fun(variable(3), row(4), self)}
	for _, x := range all {
		if types.Right(x) || types.Depth(x) != 201 || types.Text(x) != "" {
			t.Errorf("what stands within itself is right")
		}
		types.Vars(x)
		for _, y := range all {
			types.Same(x, y)
		}
	}
}

// TestLarge has types of many pieces, and such as are much deeper than is right.
func TestLarge(t *testing.T) {
	next := 0
	var full func(deep int) api.Type
	full = func(deep int) api.Type {
		next++
		if deep == 1 {
			return variable(next)
		}
		return fun(full(deep-1), row(next), full(deep-1))
	}
	x := full(16)
	if kinds, rows := types.Vars(x); !types.Right(x) || !types.Same(x, bare(x)) || types.Depth(x) != 16 || len(kinds) != 1<<15 || len(rows) != 1<<15-1 {
		t.Errorf("a large type: %d and %d variables", len(kinds), len(rows))
	}
	wantText(t, x, types.Text(x))
	deep := variable(1)
	for range 60000 {
		deep = fun(deep, row(2), ref(variable(3)))
	}
	wantVars(t, deep, []int{1, 3}, []int{2})
	if types.Right(deep) || types.Depth(deep) != 201 || !types.Same(deep, bare(deep)) || types.Text(deep) != "" {
		t.Errorf("a deep type is right")
	}
}
