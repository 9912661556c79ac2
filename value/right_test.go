package value_test

import (
	"math"
	"testing"

	"brocade/api"
	"brocade/value"
)

// slowJudge tells of a value whether it is right, and whether it is first-order, another way than package value.
func slowJudge(v api.Value) (right, first bool) {
	deep := 0
	right, first = true, true
	for level := []api.Value{v}; len(level) > 0 && deep <= 1000; deep++ {
		var next []api.Value
		for _, at := range level {
			name, kids, numbers := at.Name != "", len(at.Kids) > 0, at.N != 0
			switch at.Kind {
			case 1: // a number
				right = right && !name && !kids
			case 2: // true or false
				right = right && !name && !kids && uint(at.N) < 2
			case 3: // unit
				right = right && !name && !kids && !numbers
			case 4: // a constructor's
				right = right && name && !numbers
			case 5: // a ref
				right, first = right && !name && !kids && at.N > -1, false
			case 6: // a function
				right, first = right && !name && !kids && !numbers, false
			default:
				right = false
			}
			next = append(next, at.Kids...)
		}
		level = next
	}
	right = right && deep <= 1000
	return right, right && first
}

func wantJudged(t *testing.T, v api.Value) {
	t.Helper()
	right, first := slowJudge(v)
	want(t, v, right, first)
}

// want holds whether a value is right, and whether it is first-order; one that is not right has no text.
func want(t *testing.T, v api.Value, right, first bool) {
	t.Helper()
	if value.Right(v) != right || value.First(v) != first {
		t.Fatalf("%.300s: right: %v; first-order: %v", brief(v), value.Right(v), value.First(v))
	}
	text, err := value.Text(v)
	if !right && (text != "" || err != api.ErrArg) || right && err != api.OK {
		t.Fatalf("%.300s: %.300s and %v", brief(v), text, err)
	}
}

// brief is a value's kinds and names, to tell it by.
func brief(v api.Value) string {
	out := string(rune('a'+v.Kind)) + v.Name
	for i := 0; i < len(v.Kids) && len(out) < 300; i++ {
		out += "[" + brief(v.Kids[i]) + "]"
	}
	return out
}

// TestRightAlone has values of all kinds, with all sorts of parts.
func TestRightAlone(t *testing.T) {
	right, first := 0, 0
	for kind := -1; kind <= 9; kind++ {
		for _, name := range []string{"", "A", "x", "true", "\x00", " ", "\xff"} {
			for _, n := range []int{math.MinInt, -2, -1, 0, 1, 2, 3, math.MaxInt} {
				for _, kids := range [][]api.Value{nil, {}, {number(1)}, {number(1), con("A")}, {fun()}, {number(2), ref(2)}, {{}}, {number(1), {}}, {{}, number(1)}, {con("A", api.Value{})}, {truth(2)}} {
					v := api.Value{Kind: kind, N: n, Name: name, Kids: kids}
					wantJudged(t, v)
					right, first = right+count(value.Right(v)), first+count(value.First(v))
				}
			}
		}
	}
	// each but a constructor's with no kids, nil or empty: any number, true and false, unit, fun, a ref from 0 on; any name with right kids
	if right != 2*8+2*2+2+2+2*5+6*6 || first != 2*8+2*2+2+6*4 {
		t.Errorf("%d are right, %d first-order", right, first)
	}
}

// TestRight has values by hand.
func TestRight(t *testing.T) {
	for _, v := range []api.Value{number(0), number(math.MinInt), truth(0), truth(1), unit(), con("A"), con("_"), con("a b"), con("A", number(1)), con("A", con("B", con("C"), unit())), {Kind: 4, Name: "A", Kids: []api.Value{}}, {Kind: 1, Kids: []api.Value{}}} {
		want(t, v, true, true)
	}
	for _, v := range []api.Value{fun(), ref(0), ref(math.MaxInt), con("A", fun()), con("A", number(1), ref(1)), con("A", con("B", con("C", fun()), unit()))} {
		want(t, v, true, false)
	}
	for _, v := range []api.Value{
		{}, {Kind: -1}, {Kind: 7}, {N: 1}, {Name: "A"}, truth(2), truth(-1), truth(math.MinInt), ref(-1), ref(math.MinInt), con(""), con("", number(1)),
		{Kind: 3, N: 1}, {Kind: 6, N: 1}, {Kind: 6, N: -1}, {Kind: 4, Name: "A", N: 1}, {Kind: 4, Name: "A", N: -1}, {Kind: 1, Name: "A"}, {Kind: 2, Name: "A"}, {Kind: 3, Name: "A"}, {Kind: 5, Name: "A"}, {Kind: 6, Name: "A"},
		{Kind: 1, Kids: []api.Value{unit()}}, {Kind: 2, Kids: []api.Value{unit()}}, {Kind: 3, Kids: []api.Value{unit()}}, {Kind: 5, Kids: []api.Value{unit()}}, {Kind: 6, Kids: []api.Value{unit()}},
	} {
		want(t, v, false, false)
	}
}

// ways are those in which a value may stand in another one.
func ways() []func(api.Value) api.Value {
	return []func(api.Value) api.Value{
		func(v api.Value) api.Value { return con("A", v) },
		func(v api.Value) api.Value { return con("Cons", number(1), v) },
		func(v api.Value) api.Value { return con("B", con("C"), v, unit(), con("C")) },
		func(v api.Value) api.Value { return con("F", v, number(-3), unit()) },
	}
}

// TestWithin has values that are wrong, or not first-order, in each place of others, some of them deep.
func TestWithin(t *testing.T) {
	for _, way := range ways() {
		for _, deep := range []int{1, 2, 30, 900} {
			for _, x := range []struct {
				v            api.Value
				right, first bool
			}{{number(7), true, true}, {con("X", unit()), true, true}, {fun(), true, false}, {ref(3), true, false}, {api.Value{}, false, false}, {truth(2), false, false}, {ref(-1), false, false}, {con(""), false, false}, {api.Value{Kind: 3, Kids: []api.Value{unit()}}, false, false}} {
				v := x.v
				for range deep {
					v = way(v)
				}
				want(t, v, x.right, x.first)
				want(t, con("O", v, v), x.right, x.first)
				want(t, con("O", unit(), v, fun()), x.right, false)
			}
		}
	}
}

// TestDepth has values that are as deep as they may be, and deeper, in the one place or the other one.
func TestDepth(t *testing.T) {
	for _, way := range ways() {
		for _, inmost := range []api.Value{number(1), truth(1), unit(), con("Nil"), fun(), ref(2)} {
			v := inmost
			for deep := 1; deep <= 1010; deep++ {
				if deep < 5 || deep > 990 {
					fine := deep <= value.MaxDepth
					if v = own(v, deep%2); deep > 4 || slowSame(v, inmost) {
						want(t, v, fine, fine && inmost.Kind < api.ValRef)
					}
					for _, around := range []api.Value{con("O", v, number(1)), con("O", number(1), v), con("O", con("P", unit()), v, con("P", con("P")))} {
						want(t, around, deep < value.MaxDepth, deep < value.MaxDepth && inmost.Kind < api.ValRef)
					}
				}
				v = way(v)
			}
		}
	}
	if value.MaxDepth != 1000 {
		t.Errorf("values may be %d deep", value.MaxDepth)
	}
}
