package scheme_test

import (
	"reflect"
	"regexp"
	"strconv"
	"testing"

	"brocade/api"
	"brocade/scheme"
	"brocade/types"
)

// TestBare: no variable is bound (H1).
func TestBare(t *testing.T) {
	luck := dice(1)
	for range 500 {
		x := luck.made(5)
		if s := scheme.Bare(x); len(s.Types) != 0 || len(s.Rows) != 0 || !types.Same(s.Type, x) {
			t.Fatalf("%s: %s", types.Text(x), told(s))
		}
	}
	for _, text := range []string{"int", "'1", "'3 -> <E,E|3> ref '1", "D -> <> unit"} {
		if s := scheme.Bare(readType(t, text)); len(s.Types) != 0 || len(s.Rows) != 0 || !types.Same(s.Type, readType(t, text)) {
			t.Errorf("%s: %s", text, told(s))
		}
	}
}

// TestFreeByHand: what stands in the type and is not bound, in the order in which it stands there (H1).
func TestFreeByHand(t *testing.T) {
	for _, x := range [][2]string{
		{"int", ""},
		{"'1: int", ""},
		{"'3", "'3"},
		{"'3: '3", ""},
		{"'2: '3", "'3"},
		{"'3 -> <E|7> '1", "'3 '1 |7"},
		{"'3 |7: '3 -> <E|7> '1", "'1"},
		{"'1: '3 -> <E|7> '1", "'3 |7"},
		{"|3 |1: '3 -> <E|7> '1", "'3 '1 |7"},
		{"'7: '3 -> <E|7> '1", "'3 '1 |7"},
		{"'2 -> <|2> '1 -> <|1> '2", "'2 '1 |2 |1"},
		{"|2: '2 -> <|2> '1 -> <|1> '2", "'2 '1 |1"},
		{"'2: '2 -> <|2> '1 -> <|1> '2", "'1 |2 |1"},
		{"'9: ('5 -> <|4> '5) -> <|3> ref ('5 -> <|4> '4)", "'5 '4 |4 |3"},
		{"'5 '4 |3 |4: ('5 -> <|4> '5) -> <|3> ref ('5 -> <|4> '4)", ""},
		{"'3 -> <E> '3", "'3"},
	} {
		if got := listed(scheme.Free(readScheme(t, x[0]))); got != x[1] {
			t.Errorf("%s: %q, not %q", x[0], got, x[1])
		}
	}
}

// TestGeneralByHand: bound is what is free in none of the environment, in the order in which it stands there (H2).
func TestGeneralByHand(t *testing.T) {
	for _, x := range []struct {
		of, want string
		env      []string
	}{
		{"'1 -> '2", "'1: '1 -> '2", []string{"'2"}},
		{"int", "int", nil},
		{"int", "int", []string{"'1 -> <|1> '2"}},
		{"'1", "'1: '1", nil},
		{"'3 -> <|2> '1 -> <|1> '3", "'3 '1 |2 |1: '3 -> <|2> '1 -> <|1> '3", nil},
		{"'3 -> <|2> '1 -> <|1> '3", "'1 |2 |1: '3 -> <|2> '1 -> <|1> '3", []string{"int", "ref '3"}},
		{"'3 -> <|2> '1 -> <|1> '3", "'3 |2: '3 -> <|2> '1 -> <|1> '3", []string{"'1 -> <|1> '1"}},
		{"'3 -> <|2> '1 -> <|1> '3", "'3 '1 |2: '3 -> <|2> '1 -> <|1> '3", []string{"'1: '1 -> <|1> '1"}},
		{"'3 -> <|2> '1 -> <|1> '3", "'3 |2 |1: '3 -> <|2> '1 -> <|1> '3", []string{"|1: '1 -> <|1> '1"}},
		{"'3 -> <|2> '1 -> <|1> '3", "'3 '1 |2 |1: '3 -> <|2> '1 -> <|1> '3", []string{"'1 |1: '1 -> <|1> '1"}},
		{"'3 -> <|2> '1 -> <|1> '3", "'3 |2: '3 -> <|2> '1 -> <|1> '3", []string{"'1 |1: '1 -> <|1> '1", "'1 -> <|1> '1"}},
		{"'3 -> <|2> '1 -> <|1> '3", "'3 -> <|2> '1 -> <|1> '3", []string{"'1", "int -> <|2> '3", "'3 -> <E|1> '7"}},
		{"'3 -> <|2> '1 -> <|1> '3", "'3 '1 |2 |1: '3 -> <|2> '1 -> <|1> '3", []string{"'2 -> <|3> '4"}},
		{"'3 -> <E,E> '3", "'3: '3 -> <E,E> '3", []string{"int -> <|3> int"}},
		{"int -> <E|3> int", "|3: int -> <E|3> int", []string{"'3"}},
	} {
		var env []scheme.Scheme
		for _, known := range x.env {
			env = append(env, readScheme(t, known))
		}
		if got := told(scheme.General(env, readType(t, x.of))); got != x.want {
			t.Errorf("%s over %q: %s, not %s", x.of, x.env, got, x.want)
		}
	}
}

// TestFreshByHand: the bound type variables are numbered, then the bound row variables, as they are listed (H2).
func TestFreshByHand(t *testing.T) {
	for _, x := range []struct {
		of    string
		next  int
		want  string
		after int
	}{
		{"int", 5, "int", 5},
		{"'1 -> <|1> '2", 5, "'1 -> <|1> '2", 5},
		{"'1: '1", 9, "'9", 10},
		{"'1: '2", 9, "'2", 10},
		{"|1: '1", 9, "'1", 10},
		{"'1 |4: '1 -> <E|4> '2", 9, "'9 -> <E|10> '2", 11},
		{"'1 '2 |1 |2: '1 -> <E|1> '2 -> <E,F|2> ref '1", 7, "'7 -> <E|9> '8 -> <E,F|10> ref '7", 11},
		{"'2 '1 |2 |1: '1 -> <E|1> '2 -> <E,F|2> ref '1", 7, "'8 -> <E|10> '7 -> <E,F|9> ref '8", 11},
		{"'5 '1 '6 |7 |1: '1 -> <|1> '1", 1, "'2 -> <|5> '2", 6},
		{"'1 '2: '1 -> '2", 2, "'2 -> '3", 4},
		{"'2 '1: '1 -> '2", 1, "'2 -> '1", 3},
		{"|1 |2: int -> <|1> int -> <|2> int", 2, "int -> <|2> int -> <|3> int", 4},
		{"'1: '1 -> '2", 2, "'2 -> '2", 3},
		{"'1: '1 -> <|1> '1", 3, "'3 -> <|1> '3", 4},
		{"|1: '1 -> <D,E,E|1> '1", 3, "'1 -> <D,E,E|3> '1", 4},
		{"|1: '1 -> <D,E,E> '1", 3, "'1 -> <D,E,E> '1", 4},
		{"'1: ref (('1 -> '1) -> D)", 1000000, "ref (('1000000 -> '1000000) -> D)", 1000001},
	} {
		got, after := scheme.Fresh(readScheme(t, x.of), x.next)
		if types.Text(got) != x.want || after != x.after {
			t.Errorf("%s, %d: %s, %d, not %s, %d", x.of, x.next, types.Text(got), after, x.want, x.after)
		}
	}
}

// TestListedTwice: a variable that is listed twice is one variable.
func TestListedTwice(t *testing.T) {
	s := readScheme(t, "'2 '1 '2 |1 |1 |3: '1 -> <E|1> '2 -> <|3> '4")
	if got, after := scheme.Fresh(s, 9); types.Text(got) != "'10 -> <E|11> '9 -> <|12> '4" || after != 13 {
		t.Errorf("%s, %d", types.Text(got), after)
	}
	if got := listed(scheme.Free(s)); got != "'4" {
		t.Error(got)
	}
	if !scheme.Instance(s, readType(t, "int -> <E> bool -> '4")) || scheme.Instance(s, readType(t, "int -> <E> bool -> '3")) {
		t.Error("wrong instances")
	}
}

// wordsOf matches type variables and row variables in the text of a type.
var wordsOf = regexp.MustCompile(`['|][0-9]+`)

// standing is the variables in the text of a type, each once, as they stand there: a sign and a number.
func standing(x api.Type, sign byte) []int {
	var out []int
	met := map[int]bool{}
	for _, word := range wordsOf.FindAllString(types.Text(x), -1) {
		n, _ := strconv.Atoi(word[1:])
		if word[0] == sign && !met[n] {
			met[n] = true
			out = append(out, n)
		}
	}
	return out
}

// left is the numbers of a list that are in no other one.
func left(list []int, others ...[]int) []int {
	var out []int
	for _, n := range list {
		there := false
		for _, other := range others {
			for _, m := range other {
				there = there || m == n
			}
		}
		if !there {
			out = append(out, n)
		}
	}
	return out
}

// TestByText holds Free, General and Fresh against a way that has texts alone.
func TestByText(t *testing.T) {
	luck := dice(2)
	for range 6000 {
		s := luck.scheme(5)
		freeKinds, freeRows := left(standing(s.Type, '\''), s.Types), left(standing(s.Type, '|'), s.Rows)
		if got, want := listed(scheme.Free(s)), listed(freeKinds, freeRows); got != want {
			t.Fatalf("%s: %s, not %s", told(s), got, want)
		}
		var env []scheme.Scheme
		var kinds, rows [][]int
		for range luck.under(4) {
			known := luck.scheme(3)
			env = append(env, known)
			kinds = append(kinds, left(standing(known.Type, '\''), known.Types))
			rows = append(rows, left(standing(known.Type, '|'), known.Rows))
		}
		want := scheme.Scheme{Types: left(standing(s.Type, '\''), kinds...), Rows: left(standing(s.Type, '|'), rows...), Type: s.Type}
		if got := scheme.General(env, s.Type); told(got) != told(want) {
			t.Fatalf("%s over %v: %s, not %s", types.Text(s.Type), env, told(got), told(want))
		}
		wantFresh(t, s, 1+luck.under(9))
	}
}

// wantFresh puts numbers into the text of a scheme's type.
func wantFresh(t *testing.T, s scheme.Scheme, next int) {
	t.Helper()
	instead := map[string]string{}
	for i, n := range s.Types {
		instead["'"+strconv.Itoa(n)] = "'" + strconv.Itoa(next+i)
	}
	for i, n := range s.Rows {
		instead["|"+strconv.Itoa(n)] = "|" + strconv.Itoa(next+len(s.Types)+i)
	}
	want := wordsOf.ReplaceAllStringFunc(types.Text(s.Type), func(word string) string {
		if other, there := instead[word]; there {
			return other
		}
		return word
	})
	got, after := scheme.Fresh(s, next)
	if types.Text(got) != want || after != next+len(s.Types)+len(s.Rows) {
		t.Fatalf("%s, %d: %s, %d, not %s", told(s), next, types.Text(got), after, want)
	}
}

// TestGeneralIsOne: what is generalized has the environment's variables free alone, and is an instance of itself.
func TestGeneralIsOne(t *testing.T) {
	luck := dice(3)
	for range 2000 {
		x, known := luck.made(5), luck.scheme(3)
		s := scheme.General([]scheme.Scheme{known}, x)
		kinds, rows := scheme.Free(s)
		envKinds, envRows := scheme.Free(known)
		if len(left(kinds, envKinds)) > 0 || len(left(rows, envRows)) > 0 || !scheme.Instance(s, x) {
			t.Fatalf("%s over %s: %s", types.Text(x), told(known), told(s))
		}
		if none := scheme.General([]scheme.Scheme{scheme.Bare(x)}, x); told(none) != told(scheme.Bare(x)) || !reflect.DeepEqual(none.Type, scheme.Bare(x).Type) {
			t.Fatalf("%s over itself: %s", types.Text(x), told(none))
		}
	}
}
