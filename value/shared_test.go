package value_test

import (
	"strings"
	"testing"

	"brocade/api"
	"brocade/value"
)

// twice has the same value two times, so many times over.
func twice(inmost api.Value, deep int) api.Value {
	for range deep - 1 {
		inmost = con("P", inmost, inmost)
	}
	return inmost
}

// judged holds whether a value is right, and whether it is first-order, of one that is more than anyone could write.
func judged(t *testing.T, v api.Value, right, first bool) {
	t.Helper()
	if value.Right(v) != right || value.First(v) != first {
		t.Errorf("right: %v; first-order: %v", value.Right(v), value.First(v))
	}
	if _, err := value.Text(v); !right && err != api.ErrArg {
		t.Errorf("its text: %v", err)
	}
}

// TestShared has values that are within each other more often than anyone could count.
func TestShared(t *testing.T) {
	wantText(t, twice(number(1), 3), "P(P(1, 1), P(1, 1))")
	v, again := twice(number(1), 1000), twice(number(1), 1000)
	judged(t, v, true, true)
	judged(t, twice(fun(), 1000), true, false)
	judged(t, twice(ref(1), 1000), true, false)
	judged(t, twice(ref(-1), 1000), false, false)
	judged(t, twice(con(""), 1000), false, false)
	judged(t, twice(number(1), 1001), false, false)
	judged(t, con("A", number(1), v), false, false)
	wantSame(t, v, v, true)
	wantSame(t, v, again, true)
	for _, other := range []api.Value{twice(number(2), 1000), twice(number(1), 999), twice(number(1), 1001), twice(con("P", number(1), number(2)), 999)} {
		wantSame(t, v, other, false)
	}
}

// TestSharedHeights: a list stands in several places, in one of them too deep, whichever is met first.
func TestSharedHeights(t *testing.T) {
	for _, high := range []int{1, 2, 500, 999} {
		shared := con("S")
		for range high - 1 {
			shared = con("S", number(1), shared)
		}
		above := con("P", shared)
		for _, levels := range []int{1, 2, 998 - high, 999 - high, 1000 - high, 1001 - high} {
			deep, deepAbove := shared, above
			for range levels {
				deep, deepAbove = con("D", deep), con("D", deepAbove)
			}
			deepest := max(levels, 0) + high
			for _, around := range []api.Value{con("O", shared, deep), con("O", deep, shared), con("O", shared, deep, shared)} {
				judged(t, around, deepest+1 <= 1000, deepest+1 <= 1000)
			}
			for _, around := range []api.Value{con("O", shared, above, deepAbove), con("O", shared, deepAbove), con("O", above, shared, deepAbove), con("O", deepAbove, shared, above)} {
				judged(t, around, deepest+2 <= 1000, deepest+2 <= 1000)
			}
		}
	}
}

// TestSharedBeginnings: lists that begin at the same place, but end at others, are not one.
func TestSharedBeginnings(t *testing.T) {
	kids := []api.Value{number(1), con("B", number(2)), fun(), {}}
	one, two, three, four := con("A", kids[:1]...), con("A", kids[:2]...), con("A", kids[:3]...), con("A", kids...)
	wantText(t, con("O", one, two, three), "O(A(1), A(1, B(2)), A(1, B(2), fun))")
	wantText(t, con("O", three, two, one), "O(A(1, B(2), fun), A(1, B(2)), A(1))")
	judged(t, con("O", one, two), true, true)
	judged(t, con("O", one, two, three), true, false)
	judged(t, con("O", one, two, four), false, false)
	wantSame(t, con("O", one, two), con("O", one, one), false)
	wantSame(t, con("O", one, two, one), con("O", one, own(two, 0), own(one, 0)), true)
}

// TestTooLong: no text is longer than anything is promised of; the call ends all the same.
func TestTooLong(t *testing.T) {
	for _, v := range []api.Value{twice(number(1), 31), twice(number(1), 100), twice(con("A"), 1000), twice(con(strings.Repeat("N", 1<<20)), 12)} {
		if text, err := value.Text(v); text != "" || err != api.ErrLimit {
			t.Errorf("%d bytes and %v", len(text), err)
		}
	}
	v := twice(unit(), 20)
	if text, err := value.Text(v); text != slowText(v) || err != api.OK {
		t.Errorf("%d bytes and %v", len(text), err)
	}
}

// circle is a value that comes back to itself behind so many others.
func circle(count int, beside ...api.Value) api.Value {
	links := make([]api.Value, count)
	for i := range links {
		links[i] = con("L", append(append([]api.Value{}, beside...), api.Value{})...)
	}
	for i := range links {
		links[i].Kids[len(beside)] = links[(i+1)%count]
	}
	return links[0]
}

// TestCircles: values that stand within themselves are not right, and all calls end.
func TestCircles(t *testing.T) {
	self := con("S", number(1), number(2))
	self.Kids[0], self.Kids[1] = self, self
	all := []api.Value{circle(1), circle(2), circle(300), circle(999), circle(1000), circle(1001), circle(50000), circle(2, number(1)), circle(3, number(1), self), self, con("A", unit(), self), circle(1, make([]api.Value, 100000)...)}
	for _, v := range all {
		judged(t, v, false, false)
		for _, other := range all {
			value.Same(v, other)
		}
		wantSame(t, v, v, true)
		wantSame(t, v, con("N", number(1), number(2)), false)
	}
	wantSame(t, circle(2), circle(2), true)
	wantSame(t, circle(2), circle(2, number(1)), false)
	wide := make([]api.Value, 100000)
	for i := range wide {
		wide[i] = number(i)
	}
	wide[len(wide)-1] = con("W", wide...)
	judged(t, wide[len(wide)-1], false, false)
}

// TestLarge has values of many pieces, and such as are much deeper than is right.
func TestLarge(t *testing.T) {
	wide := con("W", make([]api.Value, 200000)...)
	for i := range wide.Kids {
		wide.Kids[i] = con("K", number(i))
	}
	other := own(wide, 0)
	judged(t, wide, true, true)
	wantText(t, wide, slowText(wide))
	wantSame(t, wide, other, true)
	other.Kids[len(other.Kids)-1].Kids[0].N = 0
	wantSame(t, wide, other, false)
	wide.Kids[len(wide.Kids)-1].Kids[0] = ref(0)
	judged(t, wide, true, false)
	wide.Kids[len(wide.Kids)-1].Kids[0] = ref(-1)
	judged(t, wide, false, false)
	wide.Kids[len(wide.Kids)-1] = api.Value{}
	judged(t, wide, false, false)

	deep, as, unlike := number(1), number(1), number(2)
	for range 1 << 20 {
		deep, as, unlike = con("D", deep), con("D", as), con("D", unlike)
	}
	judged(t, deep, false, false)
	wantSame(t, deep, as, true)
	wantSame(t, deep, unlike, false)
}
