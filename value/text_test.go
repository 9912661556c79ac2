package value_test

import (
	"fmt"
	"math"
	"strconv"
	"strings"
	"testing"

	"brocade/api"
	"brocade/value"
)

// slowText is a right value's text, another way than package value.
func slowText(v api.Value) string {
	var kids []string
	for _, kid := range v.Kids {
		kids = append(kids, slowText(kid))
	}
	within := ""
	if kids != nil {
		within = "(" + strings.Join(kids, ", ") + ")"
	}
	switch v.Kind {
	case api.ValInt:
		return fmt.Sprint(v.N)
	case api.ValBool:
		return fmt.Sprint(v.N > 0)
	case api.ValUnit:
		return "()"
	case api.ValRef:
		return fmt.Sprint("ref", v.N)
	case api.ValFun:
		return "fun"
	}
	return v.Name + within
}

// wantText holds a right value's text, and reads it back.
func wantText(t *testing.T, v api.Value, want string) {
	t.Helper()
	if got, err := value.Text(v); got != want || err != api.OK || !value.Right(v) {
		t.Fatalf("%.300s, not %.300s: %v; right: %v", got, want, err, value.Right(v))
	}
	if again := read(t, want); !slowSame(again, v) || !value.Same(again, v) {
		t.Fatalf("%.300s is read as %+v", want, again)
	}
}

// reader reads the text of a value whose names are large.
type reader struct {
	t    *testing.T
	rest string
}

func read(t *testing.T, text string) api.Value {
	t.Helper()
	r := &reader{t, text}
	v := r.value()
	if r.rest != "" {
		t.Fatalf("%.200s: %.200s is left", text, r.rest)
	}
	return v
}

func (r *reader) takes(text string) bool {
	rest, there := strings.CutPrefix(r.rest, text)
	r.rest = rest
	return there
}

func (r *reader) value() api.Value {
	if r.takes("()") {
		return unit()
	}
	end := strings.IndexAny(r.rest, "(,)")
	if end < 0 {
		end = len(r.rest)
	}
	word := r.rest[:end]
	r.rest = r.rest[end:]
	digits, isRef := strings.CutPrefix(word, "ref")
	n, err := strconv.Atoi(digits)
	switch {
	case isRef && err == nil && n >= 0:
		return ref(n)
	case err == nil:
		return number(n)
	case word == "fun":
		return fun()
	case word == "true":
		return truth(1)
	case word == "false":
		return truth(0)
	case word == "" || word[0] < 'A' || word[0] > 'Z':
		r.t.Fatalf("%q is no word; behind it %.200s", word, r.rest)
	}
	return con(word, r.kids()...)
}

func (r *reader) kids() []api.Value {
	if !r.takes("(") {
		return nil
	}
	kids := []api.Value{r.value()}
	for r.takes(", ") {
		kids = append(kids, r.value())
	}
	if !r.takes(")") {
		r.t.Fatalf("no end of kids: %.200s", r.rest)
	}
	return kids
}

// TestText has texts that are told by the document, word by word.
func TestText(t *testing.T) {
	for _, x := range []struct {
		of   api.Value
		want string
	}{
		{number(0), "0"}, {number(7), "7"}, {number(-1), "-1"}, {number(1234567890), "1234567890"}, {number(math.MaxInt), "9223372036854775807"}, {number(math.MinInt), "-9223372036854775808"},
		{truth(1), "true"}, {truth(0), "false"}, {unit(), "()"}, {fun(), "fun"}, {ref(0), "ref0"}, {ref(12), "ref12"}, {ref(math.MaxInt), "ref9223372036854775807"},
		{con("Nil"), "Nil"}, {con("Z_9a"), "Z_9a"}, {con("A", unit()), "A(())"}, {con("A", con("B")), "A(B)"}, {con("A", number(-5)), "A(-5)"}, {con("A", fun(), ref(1)), "A(fun, ref1)"},
		{con("Cons", number(1), con("Nil")), "Cons(1, Nil)"}, {con("Cons", number(1), con("Cons", number(2), con("Nil"))), "Cons(1, Cons(2, Nil))"},
		{con("A", con("B", number(1)), number(2)), "A(B(1), 2)"}, {con("A", con("A", con("A", con("A")))), "A(A(A(A)))"}, {con("T", con("P", truth(1), truth(0)), con("P", unit(), unit()), con("Q")), "T(P(true, false), P((), ()), Q)"},
	} {
		wantText(t, x.of, x.want)
		wantText(t, own(x.of, 3), x.want)
		if slowText(x.of) != x.want {
			t.Errorf("slowText: %s, not %s", slowText(x.of), x.want)
		}
	}
}

// TestTextNames: a name is its text as it is, whatever bytes it has.
func TestTextNames(t *testing.T) {
	for _, name := range []string{"a", "_", "fun", "1", "-1", "true", "()", "ref1", "A(1)", ", ", " ", "\x00", "\xff\xfe", "é", strings.Repeat("N", 100000)} {
		for _, x := range []struct {
			of   api.Value
			want string
		}{{con(name), name}, {con(name, number(1)), name + "(1)"}, {con("A", con(name), con(name, con(name))), "A(" + name + ", " + name + "(" + name + "))"}} {
			if got, err := value.Text(x.of); got != x.want || err != api.OK {
				t.Errorf("%.300q: %.300q and %v", x.want, got, err)
			}
		}
	}
}

// TestTextWrong: what is not right has no text.
func TestTextWrong(t *testing.T) {
	for _, v := range []api.Value{{}, {Kind: 7}, {Kind: -1}, truth(2), ref(-1), con(""), {Kind: api.ValUnit, N: 1}, {Kind: api.ValFun, Name: "f"}, {Kind: api.ValInt, Kids: []api.Value{unit()}}, con("A", number(1), api.Value{}), con("A", con("B", con("", number(1))))} {
		if got, err := value.Text(v); got != "" || err != api.ErrArg {
			t.Errorf("%+v: %q and %v", v, got, err)
		}
	}
}

// small are all values with large names that are made of some, in so many steps: each step puts up to two of them into one.
func small(steps int, from []api.Value) []api.Value {
	out := from
	for range steps {
		var next []api.Value
		for _, name := range []string{"A", "B"} {
			for _, a := range out {
				next = append(next, con(name, a))
				for _, b := range out {
					next = append(next, con(name, a, b))
				}
			}
		}
		out = append(append([]api.Value{}, from...), next...)
	}
	return out
}

// TestTextsUnlike: unlike first-order values have unlike texts.
func TestTextsUnlike(t *testing.T) {
	all := small(2, []api.Value{number(1), number(-1), number(11), truth(0), truth(1), unit(), con("A"), con("AA")})
	known := map[string]api.Value{}
	for _, v := range all {
		text, err := value.Text(v)
		if other, there := known[text]; there || err != api.OK || !value.First(v) {
			t.Fatalf("%s: %+v and %+v; %v", text, other, v, err)
		}
		known[text] = v
		wantText(t, v, text)
	}
	if len(known) != len(all) || len(known) < 40000 {
		t.Errorf("%d texts of %d values", len(known), len(all))
	}
}
