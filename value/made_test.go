package value_test

import (
	"math"
	"testing"

	"brocade/api"
	"brocade/value"
)

func number(n int) api.Value { return api.Value{Kind: api.ValInt, N: n} }

func truth(n int) api.Value { return api.Value{Kind: api.ValBool, N: n} }

func unit() api.Value { return api.Value{Kind: api.ValUnit} }

func ref(n int) api.Value { return api.Value{Kind: api.ValRef, N: n} }

func fun() api.Value { return api.Value{Kind: api.ValFun} }

func con(name string, kids ...api.Value) api.Value {
	return api.Value{Kind: api.ValCon, Name: name, Kids: kids}
}

// own is a value with lists of its own, each with so much room behind its items; without room, lists without items are nil.
func own(v api.Value, room int) api.Value {
	if len(v.Kids) == 0 && room == 0 {
		v.Kids = nil
		return v
	}
	kids := make([]api.Value, 0, len(v.Kids)+room)
	for _, kid := range v.Kids {
		kids = append(kids, own(kid, room))
	}
	v.Kids = kids
	return v
}

// dice are numbers that are the same in each run.
type dice uint32

func (d *dice) under(n int) int {
	*d = *d*1664525 + 1013904223
	return int(uint32(*d)>>8) % n
}

func (d *dice) name() string {
	return []string{"A", "B", "AB", "Cons", "Nil", "Ref1", "Z_9"}[d.under(7)]
}

// made makes up a right value, with large names, that is at most so deep; first-order, if it has to be.
func (d *dice) made(deep int, first bool) api.Value {
	if deep > 1 && d.under(4) > 0 {
		v := con(d.name())
		for range d.under(4) {
			v.Kids = append(v.Kids, d.made(deep-1, first))
		}
		return v
	}
	switch d.under(6) {
	case 0:
		return number([]int{0, 1, -1, 12, -345, math.MaxInt, math.MinInt}[d.under(7)])
	case 1:
		return truth(d.under(2))
	case 2:
		return unit()
	case 3:
		if !first {
			return fun()
		}
	case 4:
		if !first {
			return ref([]int{0, 1, 23, math.MaxInt}[d.under(4)])
		}
	}
	return con(d.name())
}

// places are all values in a value, the first one itself.
func places(v *api.Value) []*api.Value {
	out := []*api.Value{v}
	for i := range v.Kids {
		out = append(out, places(&v.Kids[i])...)
	}
	return out
}

// spoilt is a value like another one but for one thing, which may be right then or not.
func (d *dice) spoilt(v api.Value) api.Value {
	v = own(v, 0)
	all := places(&v)
	at := all[d.under(len(all))]
	switch d.under(6) {
	case 0:
		at.Kind = d.under(9) - 1
	case 1:
		at.Name = []string{"", "A", "B"}[d.under(3)]
	case 2:
		at.N = d.under(5) - 2
	case 3:
		at.Kids = at.Kids[:len(at.Kids)/2]
	case 4:
		at.Kids = append(at.Kids, d.made(2, false))
	default:
		*at = d.made(3, false)
	}
	return v
}

// TestMade has made-up values, and what becomes of them when one thing in them is another one.
func TestMade(t *testing.T) {
	luck := dice(11)
	fine, first, same := 0, 0, 0
	for range 10000 {
		v := luck.made(1+luck.under(6), luck.under(2) == 0)
		wantText(t, v, slowText(v))
		for range 4 {
			other := luck.spoilt(v)
			want := slowSame(v, other)
			wantSame(t, v, other, want)
			wantJudged(t, other)
			fine, first, same = fine+count(value.Right(other)), first+count(value.First(other)), same+count(want)
			if value.Right(other) && (slowText(v) == slowText(other)) != want {
				t.Fatalf("%s: %+v and %+v", slowText(v), v, other)
			}
		}
	}
	if fine < 8000 || fine > 32000 || first < 4000 || first > fine-4000 || same < 1000 || same > 15000 {
		t.Errorf("of 40000 %d were right, %d first-order, %d the same", fine, first, same)
	}
}

func count(holds bool) int {
	if holds {
		return 1
	}
	return 0
}

// TestOwners: what is handed in stays (R1), with what is behind its lists, and the same calls have the same answers (R4).
func TestOwners(t *testing.T) {
	luck := dice(12)
	for range 3000 {
		kept := luck.made(5, luck.under(2) == 0)
		if luck.under(2) == 0 {
			kept = luck.spoilt(kept)
		}
		a, b := own(kept, 2), own(luck.spoilt(kept), 2)
		keptB := own(b, 0)
		text, err := value.Text(a)
		right, first, same := value.Right(a), value.First(a), value.Same(a, b)
		for _, v := range []*api.Value{&a, &b} {
			for _, at := range places(v) {
				for _, behind := range at.Kids[len(at.Kids):cap(at.Kids)] {
					if !slowSame(behind, api.Value{}) {
						t.Fatalf("%+v: behind its kids is %+v", kept, behind)
					}
				}
			}
		}
		if !slowSame(a, kept) || !slowSame(b, keptB) {
			t.Fatalf("%+v and %+v were changed: %+v and %+v", kept, keptB, a, b)
		}
		if again, errAgain := value.Text(a); again != text || errAgain != err || value.Right(a) != right || value.First(a) != first || value.Same(a, b) != same {
			t.Fatalf("%+v: the same calls have other answers", kept)
		}
		for _, at := range places(&a) {
			*at = fun() // a text that was answered has nothing to do with it any more
		}
		if again, _ := value.Text(kept); again != text {
			t.Fatalf("%s became %s", text, again)
		}
	}
}
