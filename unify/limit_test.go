package unify_test

import (
	"testing"

	"brocade/api"
	"brocade/subst"
	"brocade/types"
	"brocade/unify"
)

// sized is a right type of so many pieces, with a leaf at its very right.
func sized(count int, leaf api.Type) api.Type {
	switch {
	case count == 1:
		return leaf
	case count%2 == 0:
		return ref(sized(count-1, leaf))
	}
	left := count / 4 * 2
	if left == 0 {
		left = 1
	}
	return fun(sized(left, kind(api.TypInt)), row(0), sized(count-1-left, leaf))
}

// refs holds a type so many times over.
func refs(count int, held api.Type) api.Type {
	for range count {
		held = ref(held)
	}
	return held
}

func slowPieces(t api.Type) int {
	count := 1
	for _, arg := range t.Args {
		count += slowPieces(arg)
	}
	return count
}

func slowDepth(t api.Type) int {
	deep := 0
	for _, arg := range t.Args {
		deep = max(deep, slowDepth(arg))
	}
	return deep + 1
}

// TestLargePieces has types of about as many pieces as one may have, few of them deep.
func TestLargePieces(t *testing.T) {
	for count := 1; count <= 1300; count++ {
		x := sized(count, variable(1))
		if slowPieces(x) != count || !types.Right(x) || slowDepth(x) > 40 {
			t.Fatalf("%d pieces are %d, %d deep", count, slowPieces(x), slowDepth(x))
		}
		for _, y := range []api.Type{ref(x), fun(x, row(1, "E"), kind(api.TypInt)), fun(variable(1), row(0), x)} {
			if got := unify.Large(y); got != (slowPieces(y) > api.MaxPieces) {
				t.Fatalf("%d pieces: %v", slowPieces(y), got)
			}
		}
		if unify.Large(x) != (count > 1000) {
			t.Fatalf("%d pieces: %v", count, !(count > 1000))
		}
	}
}

// TestLargeDepth has types that are about as deep as one may be, and others with as many pieces that are less deep.
func TestLargeDepth(t *testing.T) {
	for deep := 1; deep <= 450; deep++ {
		left, right := kind(api.TypInt), kind(api.TypInt)
		for range deep - 1 {
			left, right = fun(left, row(1, "E"), variable(2)), fun(variable(3), row(0), right)
		}
		for _, x := range []api.Type{refs(deep-1, variable(1)), left, right} {
			if got := unify.Large(x); got != (deep > 200) || slowDepth(x) != deep {
				t.Fatalf("%d deep: %v", deep, got)
			}
		}
		for _, x := range []api.Type{fun(left, row(0), right), fun(right, row(0), left), ref(fun(refs(deep, variable(1)), row(0), right))} {
			if got, want := unify.Large(x), slowPieces(x) > 1000 || slowDepth(x) > 200; got != want {
				t.Fatalf("%d deep: %v", deep+1, got)
			}
		}
	}
}

// TestLargeWrong: whatever stands in Args is a piece, of whichever kind a type is.
func TestLargeWrong(t *testing.T) {
	for _, k := range []int{-1, 0, api.TypInt, api.TypData, api.TypFun, api.TypVar, 99} {
		for _, count := range []int{0, 1, 500, 998, 999, 1000, 1001, 100000} {
			if x := (api.Type{Kind: k, Args: make([]api.Type, count)}); unify.Large(x) != (count > 999) {
				t.Errorf("kind %d, %d Args: %v", k, count, unify.Large(x))
			}
		}
		x := api.Type{Kind: k}
		for deep := 2; deep <= 210; deep++ {
			x = api.Type{Kind: k, Args: []api.Type{x}}
			if unify.Large(x) != (deep > 200) {
				t.Errorf("kind %d, %d deep: %v", k, deep, unify.Large(x))
			}
		}
	}
}

// wantErr holds an error alone, and that what is answered beside it is what was handed in.
func wantErr(t *testing.T, what any, s subst.Subst, a, b api.Type, want api.Errno) {
	t.Helper()
	got, next, err := unify.Types(s, a, b, 7)
	if err != want {
		t.Errorf("%v: %v, not %v", what, err, want)
	}
	if err != api.OK && (next != 7 || !says(got, s) || !says(s, got)) {
		t.Errorf("%v: beside %v it answers %d, %.300s", what, err, next, told(got))
	}
}

// says tells whether s says all that t says, and the same.
func says(s, t subst.Subst) bool {
	kinds, rows := t.Vars()
	for _, n := range kinds {
		said, known := s.Type(n)
		if want, _ := t.Type(n); !known || !types.Same(said, want) {
			return false
		}
	}
	for _, n := range rows {
		said, known := s.Row(n)
		if want, _ := t.Row(n); !known || !types.SameRow(said, want) {
			return false
		}
	}
	return true
}

func errIf(wrong bool, err api.Errno) api.Errno {
	if wrong {
		return err
	}
	return api.OK
}

// TestLimitItself: the type that a variable is to be is large, or a type in which that stands becomes so.
func TestLimitItself(t *testing.T) {
	for count := 995; count <= 1003; count++ {
		x, none := sized(count, kind(api.TypBool)), subst.None()
		want := errIf(count > 1000, api.ErrLimit)
		wantErr(t, count, none, variable(1), x, want)
		wantErr(t, count, none, x, variable(1), want)
		wantErr(t, count, none, ref(variable(1)), ref(x), want)
		wantErr(t, count, none, fun(variable(2), row(3), variable(1)), fun(kind(api.TypInt), row(4), x), want)
		wantErr(t, count, none, fun(variable(1), row(3), variable(2)), fun(x, row(4), kind(api.TypInt)), want)
		wantErr(t, count, none, variable(1), ref(x), errIf(count > 999, api.ErrLimit))
		wantErr(t, count, none.SetType(2, ref(variable(1))), variable(1), x, errIf(count > 999, api.ErrLimit))
		wantErr(t, count, none.SetType(2, ref(variable(1))), variable(2), ref(x), errIf(count > 999, api.ErrLimit))
		wantErr(t, count, none.SetType(2, fun(variable(1), row(0), kind(api.TypInt))), x, variable(1), errIf(count > 998, api.ErrLimit))
		wantErr(t, count, none.SetType(2, refs(5, kind(api.TypInt))), variable(1), x, want)
		wantErr(t, count, none.SetType(1, variable(2)), variable(1), x, want)
	}
}

// TestLimitOthers: a type that is said of another variable becomes large: it has many pieces, or many times the variable.
func TestLimitOthers(t *testing.T) {
	for count := 99; count <= 103; count++ {
		s := subst.None().SetType(5, sized(900, variable(1))).SetType(9, variable(1))
		x := sized(count, kind(api.TypBool))
		want := errIf(899+count > 1000, api.ErrLimit)
		wantErr(t, count, s, variable(1), x, want)
		wantErr(t, count, s, variable(5), sized(900, x), want)
		wantErr(t, count, s, variable(9), x, want)
		both := subst.None().SetType(4, fun(sized(450, variable(1)), row(2), sized(450, variable(1))))
		half := sized(count-50, kind(api.TypBool))
		wantErr(t, count, both, half, variable(1), errIf(899+2*(count-50) > 1000, api.ErrLimit))
	}
}

// TestLimitDeep: what is said of a variable becomes more than 200 deep.
func TestLimitDeep(t *testing.T) {
	whole := kind(api.TypInt)
	for deep := 1; deep <= 200; deep++ {
		none, x := subst.None(), refs(deep-1, variable(2))
		wantErr(t, deep, none, variable(1), x, api.OK)
		wantErr(t, deep, none, x, variable(1), api.OK)
		for _, more := range []int{200 - deep, 201 - deep, 202 - deep} {
			want := errIf(deep+more > 200, api.ErrLimit)
			wantErr(t, more, none.SetType(1, x), variable(2), refs(more, whole), want)
			wantErr(t, more, none.SetType(1, x), refs(more, whole), variable(2), want)
			wantErr(t, more, none, fun(variable(1), row(0), variable(2)), fun(x, row(0), refs(more, whole)), want)
			wantErr(t, more, none.SetType(1, fun(whole, row(0), x)), variable(2), refs(more, whole), errIf(deep+1+more > 200, api.ErrLimit))
		}
	}
}

// TestLimitBefore: of several things that are wrong the first one is told.
func TestLimitBefore(t *testing.T) {
	whole, truth := kind(api.TypInt), kind(api.TypBool)
	big := sized(1001, variable(9))
	none := subst.None()
	wantErr(t, "takes", none, fun(variable(1), row(0), whole), fun(big, row(0), truth), api.ErrLimit)
	wantErr(t, "takes", none, fun(whole, row(0), variable(1)), fun(truth, row(0), big), api.ErrType)
	wantErr(t, "row", none, fun(variable(1), row(0, "E"), whole), fun(big, row(0, "F"), whole), api.ErrLimit)
	wantErr(t, "row", none, fun(whole, row(0, "E"), variable(1)), fun(whole, row(0, "F"), big), api.ErrType)
	wantErr(t, "within", none, fun(variable(9), row(0), variable(1)), fun(whole, row(0), big), api.ErrLimit)
	wantErr(t, "itself", none, variable(9), big, api.ErrType)
	wantErr(t, "itself", none, big, variable(9), api.ErrType)
	wantErr(t, "itself", none.SetType(1, big), variable(1), variable(9), api.ErrType)
	wantErr(t, "unlike", none, big, whole, api.ErrType)
	wantErr(t, "unlike", none, fun(big, row(0), variable(1)), ref(big), api.ErrType)
}

// TestLimitHandedIn: large types may be handed in, as long as none is said; and a large one that is said already
// is told as soon as some variable is to be something.
func TestLimitHandedIn(t *testing.T) {
	whole := kind(api.TypInt)
	none, big, filled := subst.None(), sized(2001, variable(1)), sized(2001, whole)
	wantErr(t, "the same", none, big, big, api.OK)
	wantErr(t, "but for a leaf", none, big, filled, api.OK)
	wantErr(t, "but for a leaf", none, filled, big, api.OK)
	wantErr(t, "but for a leaf", none, filled, sized(2001, kind(api.TypBool)), api.ErrType)
	s := none.SetType(5, sized(1001, variable(6))).SetRow(2, row(3))
	wantErr(t, "nothing", s, whole, whole, api.OK)
	wantErr(t, "nothing", s, variable(1), variable(1), api.OK)
	wantErr(t, "nothing", s, variable(5), sized(1001, variable(6)), api.OK)
	wantErr(t, "nothing", s, fun(whole, row(2, "E"), whole), fun(whole, row(3, "E"), whole), api.OK)
	wantErr(t, "unlike", s, whole, ref(whole), api.ErrType)
	wantErr(t, "something", s, variable(1), whole, api.ErrLimit)
	wantErr(t, "something", s, fun(variable(1), row(0), whole), fun(whole, row(0), ref(whole)), api.ErrLimit)
	for _, x := range []struct {
		a, b api.Row
		want api.Errno
	}{{row(0), row(0), api.OK}, {row(2, "E"), row(3, "E"), api.OK}, {row(0, "E"), row(0), api.ErrType}, {row(1), row(0), api.ErrLimit}, {row(0), row(3), api.ErrLimit}, {row(1), row(4), api.ErrLimit}, {row(1, "E"), row(4), api.ErrLimit}, {row(1), row(0, "E"), api.ErrLimit}, {row(1, "E"), row(2, "F"), api.ErrLimit}} {
		got, next, err := unify.Rows(s, x.a, x.b, 7)
		if err != x.want || next != 7 || !says(got, s) || !says(s, got) {
			t.Errorf("%v and %v: %v, %d", x.a, x.b, err, next)
		}
	}
}

// TestLimitLabels: labels are no pieces, however many.
func TestLimitLabels(t *testing.T) {
	var many []string
	for i := range 3000 {
		many = append(many, "E"+string(rune('A'+i/120)))
	}
	s, next, err := unify.Rows(subst.None(), row(1, many...), row(2, "A"), 3)
	one, _ := s.Row(1)
	other, _ := s.Row(2)
	if err != api.OK || next != 4 || !types.SameRow(one, row(3, "A")) || !types.SameRow(other, row(3, many...)) {
		t.Errorf("%v, %d: %.300s", err, next, told(s))
	}
	wantErr(t, "labels", subst.None(), variable(1), fun(variable(2), row(3, many...), variable(2)), api.OK)
}
