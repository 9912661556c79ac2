package check_test

import (
	"slices"
	"strconv"
	"strings"
	"testing"

	"brocade/api"
	"brocade/check"
	"brocade/infer"
	"brocade/parse"
	"brocade/print"
	"brocade/types"
)

// declarations stand ahead of most of the programs here.
const declarations = `
effect E { e : unit -> int ; tell : L -> unit }
effect F { f : int -> bool }
effect None { }
data L { Nil ; Cons int L }
data One { One bool }
data Three { A unit ; B int L ; C }
`

func read(t *testing.T, source string) api.Program {
	t.Helper()
	p, at, err := parse.Parse([]byte(source))
	if err != api.OK {
		t.Fatalf("%s: %v at %d", source, err, at)
	}
	return p
}

// typed is a source, behind the declarations, with the types that are inferred; each term is at a place of its own.
func typed(t *testing.T, source string) api.Program {
	t.Helper()
	p, at, err := infer.Infer(read(t, declarations+source))
	if err != api.OK {
		t.Fatalf("%s: %v at %d", source, err, at)
	}
	number(&p)
	return p
}

// number lets each term be at a place of its own: the first one at 100, the next one, by the order of Walk, at 101.
func number(p *api.Program) {
	for i, at := range within(&p.Body) {
		at.At = 100 + i
	}
}

func kind(kind int) api.Type { return api.Type{Kind: kind} }

func variable(n int) api.Type { return api.Type{Kind: api.TypVar, Var: n} }

func data(name string) api.Type { return api.Type{Kind: api.TypData, Name: name} }

func ref(held api.Type) api.Type { return api.Type{Kind: api.TypRef, Args: []api.Type{held}} }

func fun(takes api.Type, row api.Row, answers api.Type) api.Type {
	return api.Type{Kind: api.TypFun, Args: []api.Type{takes, answers}, Row: row}
}

func row(number int, labels ...string) api.Row { return api.Row{Labels: labels, Var: number} }

// reader reads types from texts, written as chapter 4 writes them, and also some that are not right.
type reader struct{ rest string }

// taken takes a word, if it stands next.
func (r *reader) taken(word string) bool {
	rest, there := strings.CutPrefix(strings.TrimLeft(r.rest, " "), word)
	if there {
		r.rest = rest
	}
	return there
}

// until is what stands ahead of the first one of some bytes.
func (r *reader) until(ends string) string {
	r.rest = strings.TrimLeft(r.rest, " ")
	at := strings.IndexAny(r.rest+" ", ends+" ")
	word := r.rest[:at]
	r.rest = r.rest[at:]
	return word
}

func (r *reader) number(ends string) int {
	n, _ := strconv.Atoi(r.until(ends))
	return n
}

func (r *reader) typ() api.Type {
	t := r.part()
	if !r.taken("->") {
		return t
	}
	happens := r.row()
	return fun(t, happens, r.typ())
}

func (r *reader) part() api.Type {
	switch {
	case r.taken("("):
		t := r.typ()
		r.taken(")")
		return t
	case r.taken("'"):
		return variable(r.number(")"))
	case r.taken("ref "):
		return ref(r.part())
	}
	switch name := r.until(")"); name {
	case "int":
		return kind(api.TypInt)
	case "bool":
		return kind(api.TypBool)
	case "unit":
		return kind(api.TypUnit)
	default:
		return data(name)
	}
}

// row is a row in `<` `>`, its labels as they stand there; without labels and variable, if none stands there.
func (r *reader) row() api.Row {
	var out api.Row
	if !r.taken("<") {
		return out
	}
	for !r.taken(">") {
		switch {
		case r.taken("|"):
			out.Var = r.number(">")
		case r.taken(","):
		default:
			out.Labels = append(out.Labels, r.until(",|>"))
		}
	}
	return out
}

func typ(text string) api.Type { return (&reader{text}).typ() }

func rowOf(text string) api.Row { return (&reader{text}).row() }

// put lets at a term stand what a text tells: `TYPE in ROW`, or `TYPE of OWN in ROW`; without a row that stays.
func put(t *api.Term, text string) {
	text, happens, there := strings.Cut(text, " in ")
	if there {
		t.Row = rowOf(happens)
	}
	text, own, there := strings.Cut(text, " of ")
	if there {
		t.Own = typ(own)
	}
	t.Type = typ(text)
}

// TestReader holds the reader against chapter 4.
func TestReader(t *testing.T) {
	for _, text := range []string{"int", "'12", "ref bool", "ref (ref unit)", "L -> '1", "'1 -> <|2> '3", "(int -> <E,console> int) -> <E|9> ref ('1 -> unit)", "int -> <E> bool -> <|3> L"} {
		if got := types.Text(typ(text)); got != text {
			t.Errorf("%s: %s", text, got)
		}
	}
	got := api.Term{}
	if put(&got, "int -> <|1> int of '7 in <console,E|3>"); told(got) != "int -> <|1> int of '7 in <console,E|3>" {
		t.Error(told(got))
	}
}

func rowText(r api.Row) string {
	out := "<" + strings.Join(r.Labels, ",")
	if r.Var != 0 {
		out += "|" + strconv.Itoa(r.Var)
	}
	return out + ">"
}

// told is all that stands at one term.
func told(t api.Term) string {
	own := ""
	if t.Own.Kind != 0 {
		own = " of " + types.Text(t.Own)
	}
	return types.Text(t.Type) + own + " in " + rowText(t.Row)
}

// parts are the terms right within a term, kids ahead of arms' bodies.
func parts(t *api.Term) []*api.Term {
	var out []*api.Term
	for i := range t.Kids {
		out = append(out, &t.Kids[i])
	}
	for i := range t.Arms {
		out = append(out, &t.Arms[i].Body)
	}
	return out
}

// within are all places of a term, its own first.
func within(t *api.Term) []*api.Term {
	out := []*api.Term{t}
	for _, part := range parts(t) {
		out = append(out, within(part)...)
	}
	return out
}

// all is what stands at a term and at all within it, in order.
func all(t api.Term) []string {
	var out []string
	for _, at := range within(&t) {
		out = append(out, told(*at))
	}
	return out
}

// own is a term with lists of its own; its types are as they were.
func own(t api.Term) api.Term {
	t.Kids, t.Arms = slices.Clone(t.Kids), slices.Clone(t.Arms)
	for i := range t.Arms {
		t.Arms[i].Vars = slices.Clone(t.Arms[i].Vars)
	}
	for _, part := range parts(&t) {
		*part = own(*part)
	}
	return t
}

// source is a program as a text.
func source(p api.Program) string {
	text, err := print.Print(p)
	if err != api.OK {
		text = "what can't be written"
	}
	return text
}

// wantCheck holds what Check answers of a program.
func wantCheck(t *testing.T, what any, p api.Program, at int, err api.Errno) {
	t.Helper()
	if gotAt, got := check.Check(p); gotAt != at || got != err {
		t.Errorf("%v: %v at %d, not %v at %d", what, got, gotAt, err, at)
	}
}
