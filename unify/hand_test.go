package unify_test

import (
	"testing"

	"brocade/api"
	"brocade/subst"
	"brocade/types"
	"brocade/unify"
)

// hand is what has to come of two types, or rows, if said is said, and next is the next number.
type hand struct {
	said, a, b string
	next       int
	want       string // all that is said then, if all is OK
	taken      int
	err        api.Errno
}

// wantAnswer holds an answer: with an error it has to be what was handed in.
func wantAnswer(t *testing.T, x hand, s, got subst.Subst, next int, err api.Errno) {
	t.Helper()
	want := x.want
	if x.err != api.OK {
		want = told(s)
	}
	if err != x.err || next != x.next+x.taken || told(got) != want {
		t.Errorf("%+v: %v, %d, %s", x, err, next, told(got))
	}
	if told(s) != told(readSaid(t, x.said)) {
		t.Errorf("%+v: what was handed in became %s", x, told(s))
	}
}

func wantTypes(t *testing.T, x hand) {
	t.Helper()
	s, a, b := readSaid(t, x.said), readType(t, x.a), readType(t, x.b)
	got, next, err := unify.Types(s, a, b, x.next)
	wantAnswer(t, x, s, got, next, err)
}

func wantRows(t *testing.T, x hand) {
	t.Helper()
	s, a, b := readSaid(t, x.said), readRow(t, x.a), readRow(t, x.b)
	got, next, err := unify.Rows(s, a, b, x.next)
	wantAnswer(t, x, s, got, next, err)
	around := func(r api.Row) api.Type { return fun(kind(api.TypInt), r, kind(api.TypInt)) }
	got, next, err = unify.Types(s, around(a), around(b), x.next)
	wantAnswer(t, x, s, got, next, err)
}

// TestSameTypes has types that are the same: nothing is said of them.
func TestSameTypes(t *testing.T) {
	for _, text := range []string{"int", "bool", "unit", "D", "'1", "ref '1", "ref (ref D)", "int -> bool", "'1 -> <|1> '1", "('1 -> <E,E,console|2> ref '3) -> <E> D -> '1"} {
		wantTypes(t, hand{a: text, b: text, next: 9})
		wantTypes(t, hand{said: "'7 = int -> <|3> '8; |9 = <E>", a: text, b: text, next: 9, want: "'7 = int -> <|3> '8; |9 = <E>"})
	}
	for _, x := range []hand{
		{said: "'1 = int", a: "'1", b: "int"},
		{said: "'1 = int; '2 = int", a: "ref '1", b: "ref '2"},
		{said: "'1 = '2", a: "'1", b: "'2"},
		{said: "'1 = '2", a: "'2", b: "'1"},
		{said: "'1 = ref '2; '3 = '2; |1 = <E|2>; |3 = <|2>", a: "'1 -> <E|3> '3", b: "ref '3 -> <|1> '2"},
	} {
		x.next, x.want = 4, x.said
		wantTypes(t, x)
	}
}

// TestVariables: a type variable is to be the other type, the first one ahead of the second one, unless it stands in that.
func TestVariables(t *testing.T) {
	for _, x := range []hand{
		{a: "'1", b: "int", want: "'1 = int"},
		{a: "int", b: "'1", want: "'1 = int"},
		{a: "'1", b: "'2", want: "'1 = '2"},
		{a: "'2", b: "'1", want: "'2 = '1"},
		{a: "'1", b: "D", want: "'1 = D"},
		{a: "ref '2", b: "'1", want: "'1 = ref '2"},
		{a: "'1", b: "'2 -> <E|1> '3", want: "'1 = '2 -> <E|1> '3"},
		{a: "int -> <|1> int", b: "'1", want: "'1 = int -> <|1> int"}, // its row variable is another one
		{a: "'1", b: "ref '1", err: api.ErrType},
		{a: "ref '1", b: "'1", err: api.ErrType},
		{a: "'1", b: "'1 -> int", err: api.ErrType},
		{a: "'1", b: "int -> '1", err: api.ErrType},
		{a: "int -> <E|1> ref (ref '1)", b: "'1", err: api.ErrType},
		{said: "'2 = ref '1", a: "'1", b: "'2", err: api.ErrType},
		{said: "'2 = ref '1", a: "'2", b: "'1", err: api.ErrType},
		{said: "'1 = int", a: "'1", b: "'2", want: "'1 = int; '2 = int"},
		{said: "'1 = int", a: "'2", b: "'1", want: "'1 = int; '2 = int"},
		{said: "'1 = '3", a: "'1", b: "'2", want: "'1 = '2; '3 = '2"},
		{said: "'1 = '3", a: "'2", b: "'1", want: "'1 = '3; '2 = '3"},
		{said: "'3 = ref '1; '4 = int -> <|1> '1; |1 = <E>", a: "'1", b: "int", want: "'1 = int; '3 = ref int; '4 = int -> <|1> int; |1 = <E>"},
		{said: "'3 = '1", a: "'2", b: "'1", want: "'2 = '1; '3 = '1"},
		{said: "'1 = '2; '2 = int", a: "'1", b: "bool", want: "'1 = bool; '2 = int"},  // s makes '2 of '1, and of '2 says int as before
		{said: "'1 = ref '1", a: "'1", b: "ref '2", want: "'1 = ref '1; '2 = ref '1"}, // below the refs s makes ref '1 of '1 again
	} {
		x.next = 5
		wantTypes(t, x)
	}
}

// TestUnlike has types of unlike kinds, and names.
func TestUnlike(t *testing.T) {
	texts := []string{"int", "bool", "unit", "D", "E", "ref int", "ref bool", "ref D", "ref (ref int)", "int -> int", "int -> bool", "bool -> int", "int -> <E> int", "ref (int -> int)", "(int -> int) -> int", "int -> int -> int"}
	for i, a := range texts {
		for j, b := range texts {
			if i != j {
				wantTypes(t, hand{a: a, b: b, next: 3, err: api.ErrType})
				wantTypes(t, hand{a: "ref (" + a + ")", b: "ref (" + b + ")", next: 3, err: api.ErrType})
				wantTypes(t, hand{a: "int -> <|1> " + a, b: "int -> <|2> " + b, next: 3, err: api.ErrType})
				wantTypes(t, hand{said: "'1 = " + a + "; '2 = " + b, a: "('1) -> int", b: "('2) -> int", next: 3, err: api.ErrType})
			}
		}
	}
}

// TestWithin has functions and refs: what they take goes ahead of their rows, and these ahead of what they answer.
func TestWithin(t *testing.T) {
	for _, x := range []hand{
		{a: "ref '1", b: "ref '2", want: "'1 = '2"},
		{a: "ref (ref '1)", b: "ref (ref int)", want: "'1 = int"},
		{a: "'1 -> '2", b: "int -> bool", want: "'1 = int; '2 = bool"},
		{a: "'1 -> '1", b: "int -> bool", err: api.ErrType},
		{a: "'1 -> '1", b: "'2 -> int", want: "'1 = int; '2 = int"},
		{a: "'1 -> '2", b: "'2 -> '1", want: "'1 = '2"},
		{a: "'1 -> '2", b: "ref '2 -> ref '1", err: api.ErrType},
		{a: "'1 -> '2 -> '3", b: "'2 -> '3 -> int", want: "'1 = int; '2 = int; '3 = int"},
		{a: "'1 -> '2 -> '3", b: "ref '2 -> ref '3 -> int", want: "'1 = ref (ref int); '2 = ref int; '3 = int"},
		{a: "'1 -> <|1> '2", b: "int -> <E> bool", want: "'1 = int; '2 = bool; |1 = <E>"},
		{a: "(int -> <|1> int) -> <E|1> int", b: "(int -> <F|2> int) -> <|3> int", want: "|1 = <F|2>; |3 = <E,F|2>"},
		{a: "(int -> <|1> int) -> <|1> int", b: "(int -> <E> int) -> <F> int", err: api.ErrType},
		{a: "'1 -> <|1> '1", b: "(int -> <E|2> int) -> <|2> int -> <|3> int", want: "'1 = int -> <E|2> int; |1 = <|2>; |3 = <E|2>"},
		{a: "(int -> <E|1> int) -> <E|3> int -> <E|5> int", b: "(int -> <F|2> int) -> <F|4> int -> <F|6> int", taken: 3, want: "|1 = <F|9>; |2 = <E|9>; |3 = <F|10>; |4 = <E|10>; |5 = <F|11>; |6 = <E|11>"},
		{a: "int -> <E|1> bool", b: "int -> <F|2> int", err: api.ErrType}, // a number was taken already, and is given back
		{said: "'1 = '2 -> <|1> '2; '3 = '4; |2 = <E|1>", a: "'1", b: "'3 -> <F> int", want: "'1 = int -> <F> int; '2 = int; '3 = int; '4 = int; |1 = <F>; |2 = <E,F>"},
		{said: "'1 = '2; '2 = '1", a: "ref '1", b: "ref '2", want: "'1 = '2; '2 = '2"}, // below the refs s makes '1 of '2 again, and '2 of '1
	} {
		x.next = 9
		wantTypes(t, x)
	}
}

func TestRows(t *testing.T) {
	for _, x := range []hand{
		{a: "<>", b: "<>"}, {a: "<E>", b: "<E>"}, {a: "<|1>", b: "<|1>"}, {a: "<E,E,console|1>", b: "<E,E,console|1>"},
		{a: "<>", b: "<|2>", want: "|2 = <>"}, {a: "<|1>", b: "<>", want: "|1 = <>"}, {a: "<E>", b: "<E|2>", want: "|2 = <>"}, {a: "<E,F|1>", b: "<E,F>", want: "|1 = <>"},
		{a: "<|1>", b: "<|2>", want: "|1 = <|2>"}, {a: "<|2>", b: "<|1>", want: "|2 = <|1>"}, {a: "<E,E|1>", b: "<E,E|2>", want: "|1 = <|2>"},
		{a: "<E>", b: "<>", err: api.ErrType}, {a: "<>", b: "<E>", err: api.ErrType}, {a: "<E>", b: "<F>", err: api.ErrType}, {a: "<E>", b: "<E,E>", err: api.ErrType},
		{a: "<E|1>", b: "<>", err: api.ErrType}, {a: "<>", b: "<E|2>", err: api.ErrType}, {a: "<E|1>", b: "<F>", err: api.ErrType}, {a: "<E>", b: "<F|2>", err: api.ErrType}, {a: "<E,F|1>", b: "<E>", err: api.ErrType},
		{a: "<E|1>", b: "<|1>", err: api.ErrType}, {a: "<|1>", b: "<E|1>", err: api.ErrType}, {a: "<E|1>", b: "<F|1>", err: api.ErrType}, {a: "<E|1>", b: "<E,E|1>", err: api.ErrType},
		{a: "<E>", b: "<|2>", want: "|2 = <E>"}, {a: "<|1>", b: "<E>", want: "|1 = <E>"}, {a: "<E|1>", b: "<|2>", want: "|2 = <E|1>"}, {a: "<|1>", b: "<E|2>", want: "|1 = <E|2>"},
		{a: "<E|1>", b: "<E,E>", want: "|1 = <E>"}, {a: "<E,E,F|1>", b: "<E|2>", want: "|2 = <E,F|1>"}, {a: "<D,F|1>", b: "<D,D,E,F,console|2>", want: "|1 = <D,E,console|2>"},
		{a: "<E|1>", b: "<F|2>", taken: 1, want: "|1 = <F|9>; |2 = <E|9>"}, {a: "<F|2>", b: "<E|1>", taken: 1, want: "|1 = <F|9>; |2 = <E|9>"},
		{a: "<D,E,E,F|1>", b: "<E,F,F,console|2>", taken: 1, want: "|1 = <F,console|9>; |2 = <D,E|9>"},
		{said: "|1 = <E>", a: "<|1>", b: "<E>", want: "|1 = <E>"}, {said: "|1 = <E>", a: "<|1>", b: "<|2>", want: "|1 = <E>; |2 = <E>"}, {said: "|1 = <E>", a: "<|1>", b: "<F|2>", err: api.ErrType},
		{said: "|1 = <E|3>; |4 = <D|3>; '3 = int -> <|3> '1", a: "<|1>", b: "<F|2>", taken: 1, want: "'3 = int -> <F|9> '1; |1 = <E,F|9>; |2 = <E|9>; |3 = <F|9>; |4 = <D,F|9>"},
		{said: "|1 = <E|2>", a: "<|1>", b: "<|2>", err: api.ErrType}, {said: "|1 = <|2>", a: "<E|1>", b: "<F|2>", err: api.ErrType}, {said: "|1 = <|2>", a: "<E|1>", b: "<E|2>", want: "|1 = <|2>"},
		{said: "'1 = int", a: "<|1>", b: "<E|2>", want: "'1 = int; |1 = <E|2>"},
	} {
		x.next = 9
		wantRows(t, x)
	}
}

// TestNext: the fresh variable is the next number, whichever that is.
func TestNext(t *testing.T) {
	for _, next := range []int{3, 4, 100, 1 << 40} {
		s, after, err := unify.Rows(subst.None(), row(1, "E"), row(2, "F"), next)
		one, _ := s.Row(1)
		other, _ := s.Row(2)
		if err != api.OK || after != next+1 || !types.SameRow(one, row(next, "F")) || !types.SameRow(other, row(next, "E")) {
			t.Errorf("%d: %v, %d, %s", next, err, after, told(s))
		}
	}
}
