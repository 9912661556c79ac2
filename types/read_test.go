package types_test

import (
	"strconv"
	"strings"
	"testing"

	"brocade/api"
)

func kind(kind int) api.Type { return api.Type{Kind: kind} }

func variable(n int) api.Type { return api.Type{Kind: api.TypVar, Var: n} }

func data(name string) api.Type { return api.Type{Kind: api.TypData, Name: name} }

func ref(held api.Type) api.Type { return api.Type{Kind: api.TypRef, Args: []api.Type{held}} }

func fun(takes api.Type, row api.Row, answers api.Type) api.Type {
	return api.Type{Kind: api.TypFun, Args: []api.Type{takes, answers}, Row: row}
}

func row(number int, labels ...string) api.Row { return api.Row{Labels: labels, Var: number} }

// reader reads the text of a type, whose names and labels are such as a source has.
type reader struct {
	t    *testing.T
	rest string
}

func read(t *testing.T, text string) api.Type {
	t.Helper()
	r := &reader{t, text}
	out := r.whole()
	if r.rest != "" {
		t.Fatalf("%.200s: %.200s is left", text, r.rest)
	}
	return out
}

func (r *reader) takes(text string) bool {
	rest, there := strings.CutPrefix(r.rest, text)
	r.rest = rest
	return there
}

// word is what comes ahead of the first of some bytes.
func (r *reader) word(ends string) string {
	end := strings.IndexAny(r.rest, ends)
	if end < 0 {
		end = len(r.rest)
	}
	word := r.rest[:end]
	r.rest = r.rest[end:]
	return word
}

func (r *reader) number(ends string) int {
	n, err := strconv.Atoi(r.word(ends))
	if err != nil {
		r.t.Fatalf("%v, and behind it %.200s", err, r.rest)
	}
	return n
}

func (r *reader) whole() api.Type {
	left := r.side()
	if !r.takes(" -> ") {
		return left
	}
	var happens api.Row
	if r.takes("<") {
		if labels := r.word("|>"); labels != "" {
			happens.Labels = strings.Split(labels, ",")
		}
		if r.takes("|") {
			happens.Var = r.number(">")
		}
		if !r.takes("> ") {
			r.t.Fatalf("no end of a row: %.200s", r.rest)
		}
	}
	return fun(left, happens, r.whole())
}

func (r *reader) side() api.Type {
	switch {
	case r.takes("("):
		inner := r.whole()
		if !r.takes(")") {
			r.t.Fatalf("no end of a bracket: %.200s", r.rest)
		}
		return inner
	case r.takes("ref "):
		return ref(r.side())
	case r.takes("'"):
		return variable(r.number(" )"))
	}
	switch word := r.word(" )"); word {
	case "int":
		return kind(api.TypInt)
	case "bool":
		return kind(api.TypBool)
	case "unit":
		return kind(api.TypUnit)
	default:
		return data(word)
	}
}
