package types_test

import (
	"math"
	"reflect"
	"regexp"
	"strconv"
	"testing"

	"brocade/api"
	"brocade/types"
)

// slowVars finds the numbers behind a sign in a text, each once.
func slowVars(text, sign string) []int {
	var out []int
	for _, found := range regexp.MustCompile(sign+`(\d+)`).FindAllStringSubmatch(text, -1) {
		n, _ := strconv.Atoi(found[1])
		known := false
		for _, other := range out {
			known = known || other == n
		}
		if !known {
			out = append(out, n)
		}
	}
	return out
}

func slowDepth(t api.Type) int {
	deep := 0
	for _, arg := range t.Args {
		deep = max(deep, slowDepth(arg))
	}
	return deep + 1
}

func wantVars(t *testing.T, x api.Type, kinds, rows []int) {
	t.Helper()
	got, gotRows := types.Vars(x)
	if !equal(got, kinds) || !equal(gotRows, rows) {
		t.Fatalf("%.300s: %v and %v, not %v and %v", types.Text(x), got, gotRows, kinds, rows)
	}
}

func equal(a, b []int) bool { return len(a) == 0 && len(b) == 0 || reflect.DeepEqual(a, b) }

func TestVars(t *testing.T) {
	for text, want := range map[string][2][]int{
		"int": {}, "D": {}, "unit -> <E> bool": {}, "'7": {{7}, nil}, "ref '7": {{7}, nil}, "ref (ref '9223372036854775807)": {{math.MaxInt}, nil},
		"'1 -> '2": {{1, 2}, nil}, "'2 -> '1": {{2, 1}, nil}, "'1 -> '1": {{1}, nil}, "int -> <|1> int": {nil, {1}}, "'1 -> <|1> '1": {{1}, {1}}, "'2 -> <E,console|3> '1": {{2, 1}, {3}},
		"('1 -> <|2> '2) -> <|3> '3":                              {{1, 2, 3}, {2, 3}},
		"('3 -> <|3> '2) -> <|2> '1":                              {{3, 2, 1}, {3, 2}},
		"('1 -> <|5> '2) -> <|4> '1 -> <|5> '3":                   {{1, 2, 3}, {5, 4}},
		"'1 -> <|2> ('3 -> <|1> int) -> <|2> '1":                  {{1, 3}, {2, 1}},
		"int -> <|9> ref (ref ('4 -> <|8> '4) -> <|7> '2)":        {{4, 2}, {9, 8, 7}},
		"(('1 -> '2) -> <|3> '3) -> <|1> ('2 -> <|4> '5) -> '6":   {{1, 2, 3, 5, 6}, {3, 1, 4}},
		"ref ('10 -> <A|20> ref ('30 -> <|10> '20)) -> <|30> '40": {{10, 30, 20, 40}, {20, 10, 30}},
		"('1 -> <|1> '1) -> <|1> ('1 -> <|1> '1) -> <|1> '1":      {{1}, {1}},
		"('1 -> <|2> '1) -> <|1> ('1 -> <|2> '1) -> <|3> ref '2":  {{1, 2}, {2, 1, 3}},
		"ref '3 -> <|6> (ref '2 -> <|5> ref '1) -> <|4> ref unit": {{3, 2, 1}, {6, 5, 4}},
	} {
		wantVars(t, read(t, text), want[0], want[1])
	}
}

// TestVarsOrder: the order is that of the text.
func TestVarsOrder(t *testing.T) {
	for _, x := range rightTypes() {
		text := types.Text(x)
		wantVars(t, x, slowVars(text, "'"), slowVars(text, `\|`))
		if got := types.Depth(x); got != slowDepth(x) {
			t.Fatalf("%s: %d", text, got)
		}
	}
}

// TestDepth has types that are as deep as they may be, and deeper, at the one place or the other one.
func TestDepth(t *testing.T) {
	for _, x := range samples() {
		if got := types.Depth(x); got != slowDepth(x) {
			t.Fatalf("%+v: %d", x, got)
		}
	}
	for _, way := range ways() {
		x := variable(5)
		for deep := 1; deep <= 300; deep++ {
			want := min(deep, 201)
			shallow := fun(variable(1), row(1), variable(1))
			if got := types.Depth(x); got != want || types.Right(x) != (deep <= 200) || (types.Text(x) != "") != (deep <= 200) {
				t.Fatalf("%d: %d and %v", deep, got, types.Right(x))
			}
			for _, around := range []api.Type{fun(x, row(2), shallow), fun(shallow, row(2), x)} {
				if got := types.Depth(around); got != min(max(deep, 2)+1, 201) || types.Right(around) != (deep < 200) {
					t.Fatalf("%d: %d around it", deep, got)
				}
			}
			x = way(x)
		}
	}
}
