package types_test

import (
	"math"
	"sort"
	"testing"

	"brocade/api"
	"brocade/types"
)

// slowRight tells whether a type that is not too deep is right, another way than package types.
func slowRight(t api.Type) bool {
	args, name, number, happens := 0, t.Name != "", t.Var != 0, len(t.Row.Labels) > 0 || t.Row.Var != 0
	switch t.Kind {
	case api.TypInt, api.TypBool, api.TypUnit:
	case api.TypData:
		name = !name
	case api.TypVar:
		number = t.Var < 1
	case api.TypRef:
		args = 1
	case api.TypFun:
		args, happens = 2, !slowRightRow(t.Row)
	default:
		return false
	}
	fine := len(t.Args) == args && !name && !number && !happens
	for _, arg := range t.Args {
		fine = fine && slowRight(arg)
	}
	return fine
}

func slowRightRow(r api.Row) bool {
	if r.Var < 0 || !sort.StringsAreSorted(r.Labels) {
		return false
	}
	for _, label := range r.Labels {
		if len(label) == 0 {
			return false
		}
	}
	return true
}

// TestRightAlone has types of all kinds, with all sorts of parts.
func TestRightAlone(t *testing.T) {
	whole, wrong := kind(api.TypInt), api.Type{}
	count := 0
	for k := -1; k <= 9; k++ {
		for _, name := range []string{"", "D", "int", "\x00", "d e"} {
			for _, number := range []int{math.MinInt, -1, 0, 1, 2, math.MaxInt} {
				for _, args := range [][]api.Type{nil, {}, {whole}, {wrong}, {whole, whole}, {whole, wrong}, {wrong, whole}, {whole, whole, whole}} {
					for _, r := range []api.Row{{}, {Labels: []string{}}, row(1), row(-1), row(0, "E"), row(0, ""), row(3, "D", "E"), row(0, "E", "D"), row(-1, "E"), row(0, "E", "E")} {
						x := api.Type{Kind: k, Name: name, Var: number, Args: args, Row: r}
						want := slowRight(x)
						if got := types.Right(x); got != want {
							t.Fatalf("%+v: %v", x, got)
						}
						if want {
							count++
						}
						if text := types.Text(x); !want && text != "" {
							t.Fatalf("%+v: %s", x, text)
						}
					}
				}
			}
		}
	}
	if count != 3*2*2+4*2*2+3*2*2+2+6 {
		t.Errorf("%d are right", count)
	}
}

// TestRightWithin has a type that is not right in each place of others, some of them deep.
func TestRightWithin(t *testing.T) {
	for _, wrong := range []api.Type{{}, {Kind: 8}, {Kind: api.TypData}, {Kind: api.TypVar}, {Kind: api.TypInt, Name: "D"}, {Kind: api.TypRef}, fun(variable(1), row(0, "F", "E"), variable(1)), fun(variable(1), row(-1), variable(1))} {
		for _, way := range ways() {
			for _, deep := range []int{1, 2, 30, 198} {
				x := wrong
				for range deep {
					x = way(x)
				}
				if types.Right(x) || types.Right(fun(kind(api.TypInt), api.Row{}, x)) || types.Text(x) != "" {
					t.Fatalf("%d deep: %+v", deep, wrong)
				}
			}
		}
	}
}

// ways are those in which a type may stand right in others.
func ways() []func(api.Type) api.Type {
	return []func(api.Type) api.Type{
		ref,
		func(x api.Type) api.Type { return fun(x, row(1, "E"), data("D")) },
		func(x api.Type) api.Type { return fun(variable(1), row(0, "E", "console"), x) },
	}
}

// labelLists are all lists of up to so many of some labels.
func labelLists(most int, labels ...string) [][]string {
	out := [][]string{nil}
	for from := 0; most > 0; most-- {
		longer := out[from:]
		from = len(out)
		for _, l := range longer {
			for _, label := range labels {
				out = append(out, append(append([]string{}, l...), label))
			}
		}
	}
	return out
}

func TestRightRow(t *testing.T) {
	for _, labels := range labelLists(4, "", "A", "AA", "B", "console") {
		for _, number := range []int{math.MinInt, -1, 0, 1, 7, math.MaxInt} {
			r := row(number, labels...)
			if got, want := types.RightRow(r), slowRightRow(r); got != want {
				t.Fatalf("%+v: %v", r, got)
			}
			x := fun(kind(api.TypInt), r, kind(api.TypInt))
			if got, want := types.Right(x), slowRightRow(r); got != want {
				t.Fatalf("%+v: %v", x, got)
			}
		}
	}
	for _, x := range []struct {
		labels []string
		fine   bool
	}{
		{[]string{}, true}, {[]string{"B", "a"}, true}, {[]string{"a", "B"}, false}, {[]string{"E", "E1"}, true}, {[]string{"E1", "E"}, false},
		{[]string{"a", "é"}, true}, {[]string{"z", "\xff"}, true}, {[]string{"\xff", "z"}, false}, {[]string{" ", "%"}, true}, {[]string{""}, false}, {[]string{"", "E"}, false},
	} {
		if got := types.RightRow(row(0, x.labels...)); got != x.fine {
			t.Errorf("%q: %v", x.labels, got)
		}
	}
}
