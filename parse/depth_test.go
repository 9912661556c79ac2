package parse_test

import (
	"strings"
	"testing"

	"brocade/api"
	"brocade/parse"
)

func wantDepth(t *testing.T, what string, term api.Term, want int) {
	t.Helper()
	if got := parse.Depth(term); got != want {
		t.Errorf("%s: %d deep, not %d", what, got, want)
	}
}

func TestDepth(t *testing.T) {
	wantDepth(t, "nothing", api.Term{}, 1)
	wantDepth(t, "empty lists", api.Term{Kids: []api.Term{}, Arms: []api.Arm{}}, 1)
	wantDepth(t, "names", api.Term{Kind: api.TermVar, Name: "x", Type: api.Type{Args: []api.Type{{Args: []api.Type{{}}}}}}, 1)
	for source, want := range map[string]int{
		"1":                                     1,
		"((1))":                                 1,
		"()":                                    1,
		"read()":                                1,
		"C":                                     1,
		"C()":                                   1,
		"f x":                                   2,
		"!x":                                    2,
		"op!x":                                  2,
		"fun x -> x":                            2,
		"f x y z":                               4,
		"f (x (y z))":                           4,
		"1 + 2 + 3 * 4":                         3,
		"1 + (2 + 3 * 4)":                       4,
		"C (1, 2, f x, 3)":                      3,
		"let x = 1 in f x":                      3,
		"let x = f x in 1":                      3,
		"if a then b else !!c":                  4,
		"if a then !!b else c":                  4,
		"if !!a then b else c":                  4,
		"match x { }":                           2,
		"match x { A -> 1 }":                    2,
		"match x { A -> 1; B -> !!1; C -> !1 }": 4,
		"match !!x { A -> 1; B -> !1 }":         4,
		"handle E x { return x -> !!!x }":       5,
		"handle E x { return x -> x; f a k -> !!x }": 4,
	} {
		p, _, err := parse.Parse([]byte(source))
		if err != api.OK {
			t.Errorf("%s: %v", source, err)
		}
		wantDepth(t, source, p.Body, want)
	}
}

// chain is terms one within the other, by turns in Kids and in Arms, behind and ahead of others.
func chain(size int) api.Term {
	var t api.Term
	for i := 1; i < size; i++ {
		switch i % 4 {
		case 0:
			t = api.Term{Kids: []api.Term{t}}
		case 1:
			t = api.Term{Arms: []api.Arm{{Body: t}}}
		case 2:
			t = api.Term{Kids: []api.Term{{}, {}, t}, Arms: []api.Arm{{}}}
		case 3:
			t = api.Term{Kids: []api.Term{{}}, Arms: []api.Arm{{Body: t}, {}}}
		}
	}
	return t
}

func TestDepthDeep(t *testing.T) {
	for size, want := range map[int]int{1: 1, 2: 2, 5: 5, 199: 199, 200: 200, 201: 201, 998: 998, 999: 999, 1000: 1000, 1001: 1000, 1002: 1000, 5000: 1000, 300000: 1000} {
		wantDepth(t, "a chain", chain(size), want)
	}
}

// TestDepthShared has terms with lists together, and terms within themselves: Depth ends all the same (R2).
func TestDepthShared(t *testing.T) {
	twice := api.Term{}
	for range 500 {
		twice = api.Term{Kids: []api.Term{twice, twice}, Arms: []api.Arm{{Body: twice}}}
	}
	wantDepth(t, "the same twice", twice, 501)
	self := api.Term{Kids: make([]api.Term, 2), Arms: make([]api.Arm, 2)}
	self.Kids[1] = self
	self.Arms[0].Body = self
	wantDepth(t, "within itself", self, 1000)
}

// TestOwners writes over what was handed in, and over what was answered (R1, R4).
func TestOwners(t *testing.T) {
	const source = "effect E { f : int -> D } data D { A int D } handle E f!(C (x, 1) + 2) { return x -> x; f a k -> match k a { A y z -> y } }"
	b := []byte(source)
	p, at, err := parse.Parse(b)
	if err != api.OK || string(b) != source {
		t.Fatalf("%d and %v; the source became %q", at, err, b)
	}
	want := showAll(p)
	for i := range b {
		b[i] = '$'
	}
	if got := showAll(p); got != want {
		t.Errorf("the program became %s", got)
	}
	clauses := p.Body.Arms
	clauses[1].Vars[0] = "other"
	_ = append(clauses[1].Vars[:1], "more")
	p.Datas[0].Cons[0].Fields[1].Name = "Other"
	p.Body.Kids[0].Kids[0].Kids[0].Kids[0].Name = "other"
	again, _, _ := parse.Parse([]byte(source))
	if got := showAll(again); got != want {
		t.Errorf("%s, not %s", got, want)
	}
}

// TestMostDeep: a program is at most 200 deep.
func TestMostDeep(t *testing.T) {
	for count := range 300 {
		for _, h := range []hole{{"!", ""}, {"", "+1"}, {"(f ", ")"}, {"fun x -> ", ""}, {"match x{A->", "}"}} {
			source, _ := nested(count, "x", h)
			p, _, err := parse.Parse([]byte(source))
			if (err == api.OK) != (count < 200) || err == api.OK && parse.Depth(p.Body) > 200 {
				t.Errorf("%d of %s: %v, %d deep", count, strings.TrimSpace(h.ahead+h.behind), err, parse.Depth(p.Body))
			}
		}
	}
}
