package parse_test

import (
	"reflect"
	"strconv"
	"strings"
	"testing"

	"brocade/api"
	"brocade/parse"
)

// show is a term in brackets, each term with its At; what it has beside what its kind asks for is told, too.
func show(t api.Term) string {
	rest := t
	rest.Kind, rest.At, rest.Kids, rest.Arms = 0, 0, nil, nil
	at := "@" + strconv.Itoa(t.At)
	var head string
	switch t.Kind {
	case api.TermVar:
		head, rest.Name = t.Name+at, ""
	case api.TermInt:
		head, rest.N = strconv.Itoa(t.N)+at, 0
	case api.TermBool:
		head, rest.N = "bool"+strconv.Itoa(t.N)+at, 0
	case api.TermUnit:
		head = "unit" + at
	case api.TermRec:
		head, rest.Name, rest.Param = "rec"+at+" "+t.Name+" "+t.Param, "", ""
	case api.TermFun, api.TermLet, api.TermOp, api.TermCon, api.TermDo, api.TermHandle:
		head, rest.Name = kindName(t.Kind)+at+" "+t.Name, ""
	default:
		head = kindName(t.Kind) + at
	}
	if !reflect.DeepEqual(rest, api.Term{}) {
		head += " AND MORE"
	}
	parts := []string{head}
	for _, kid := range t.Kids {
		parts = append(parts, show(kid))
	}
	for _, arm := range t.Arms {
		names := append([]string{arm.Name}, arm.Vars...)
		parts = append(parts, "["+strings.Join(names, " ")+": "+show(arm.Body)+"]")
	}
	if len(parts) == 1 && t.Kind <= api.TermUnit {
		return head
	}
	return "(" + strings.Join(parts, " ") + ")"
}

func kindName(kind int) string {
	switch kind {
	case api.TermFun:
		return "fun"
	case api.TermApp:
		return "app"
	case api.TermLet:
		return "let"
	case api.TermIf:
		return "if"
	case api.TermOp:
		return "op"
	case api.TermCon:
		return "con"
	case api.TermMatch:
		return "match"
	case api.TermDo:
		return "do"
	case api.TermHandle:
		return "handle"
	}
	return "kind" + strconv.Itoa(kind)
}

func showType(t api.Type) string {
	name := ""
	switch t.Kind {
	case api.TypInt:
		name = "int"
	case api.TypBool:
		name = "bool"
	case api.TypUnit:
		name = "unit"
	case api.TypData:
		name = t.Name
		t.Name = ""
	}
	t.Kind = 0
	if !reflect.DeepEqual(t, api.Type{}) {
		name += " AND MORE"
	}
	return name
}

// showAll is a whole program, a line for each declaration: the effects first.
func showAll(p api.Program) string {
	var lines []string
	for _, e := range p.Effects {
		line := "effect " + e.Name
		for _, op := range e.Ops {
			line += " [" + op.Name + " " + showType(op.Arg) + " " + showType(op.Res) + "]"
		}
		lines = append(lines, line)
	}
	for _, d := range p.Datas {
		line := "data " + d.Name
		for _, con := range d.Cons {
			line += " [" + con.Name
			for _, field := range con.Fields {
				line += " " + showType(field)
			}
			line += "]"
		}
		lines = append(lines, line)
	}
	return strings.Join(append(lines, show(p.Body)), "\n")
}

func wantProgram(t *testing.T, source, want string) {
	t.Helper()
	p, at, err := parse.Parse([]byte(source))
	if err != api.OK || at != 0 {
		t.Errorf("%.80q: %d and %v, not 0 and OK", source, at, err)
	}
	if got := showAll(p); got != want {
		t.Errorf("%.80q: %.200s, not %.200s", source, got, want)
	}
}

func wantFine(t *testing.T, source string) {
	t.Helper()
	if p, at, err := parse.Parse([]byte(source)); err != api.OK || at != 0 || p.Body.Kind == 0 {
		t.Errorf("%.80q: %d and %v, not 0 and OK", source, at, err)
	}
}

func wantFault(t *testing.T, source string, place int, fault api.Errno) {
	t.Helper()
	p, at, err := parse.Parse([]byte(source))
	if at != place || err != fault {
		t.Errorf("%.80q: %d and %v, not %d and %v", source, at, err, place, fault)
	}
	if !reflect.DeepEqual(p, api.Program{}) {
		t.Errorf("%.80q: a program beside %v", source, err)
	}
}
