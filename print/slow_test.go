package print_test

import (
	"strconv"
	"strings"

	"brocade/api"
)

// slowForm is how terms of a kind are written: NAME and PARAM are those, N the number, EXPR a Kid where an expr stands,
// SIDE one where anything else does, CALLED one on the left side of an application, FIELDS all Kids between commas, ARMS all Arms.
func slowForm(t api.Term) string {
	switch t.Kind {
	case api.TermVar:
		return "NAME"
	case api.TermInt:
		return "N"
	case api.TermBool:
		return []string{"false", "true"}[t.N]
	case api.TermUnit:
		return "( )"
	case api.TermFun:
		return "fun NAME -> EXPR"
	case api.TermApp:
		return "CALLED SIDE"
	case api.TermLet:
		return "let NAME = EXPR in EXPR"
	case api.TermRec:
		return "rec NAME PARAM = EXPR in EXPR"
	case api.TermIf:
		return "if EXPR then EXPR else EXPR"
	case api.TermOp:
		return []string{"NAME ( )", "NAME SIDE", "SIDE NAME SIDE"}[len(t.Kids)]
	case api.TermCon:
		return "NAME ( FIELDS )"
	case api.TermMatch:
		return "match EXPR { ARMS }"
	case api.TermDo:
		return "NAME! SIDE"
	case api.TermHandle:
		return "handle NAME EXPR { ARMS }"
	}
	return "?"
}

// slowTerm is a term's text, made another way than by package print.
func slowTerm(t api.Term) string {
	kids := t.Kids
	next := func() api.Term {
		kid := kids[0]
		kids = kids[1:]
		return kid
	}
	var out []string
	for _, word := range strings.Fields(slowForm(t)) {
		switch word {
		case "NAME":
			word = t.Name
		case "NAME!":
			word = t.Name + "!"
		case "PARAM":
			word = t.Param
		case "N":
			word = strconv.Itoa(t.N)
		case "EXPR":
			word = slowTerm(next())
		case "SIDE":
			word = slowSide(next())
		case "CALLED":
			word = slowCalled(next())
		case "FIELDS":
			word = strings.Join(each(kids, slowTerm), " , ")
		case "ARMS":
			word = strings.Join(each(t.Arms, slowArm), " ; ")
		}
		if word != "" {
			out = append(out, word)
		}
	}
	return strings.Join(out, " ")
}

func slowArm(arm api.Arm) string {
	return strings.Join(append([]string{arm.Name}, arm.Vars...), " ") + " -> " + slowTerm(arm.Body)
}

func slowSide(t api.Term) string {
	switch slowForm(t) {
	case "NAME", "N", "true", "false", "( )", "NAME ( )", "NAME ( FIELDS )":
		return slowTerm(t)
	}
	return "( " + slowTerm(t) + " )"
}

func slowCalled(t api.Term) string {
	if t.Kind == api.TermApp {
		return slowTerm(t)
	}
	return slowSide(t)
}

func slowType(t api.Type) string {
	return []string{api.TypInt: "int", api.TypBool: "bool", api.TypUnit: "unit", api.TypData: t.Name}[t.Kind]
}

func slowProgram(p api.Program) string {
	var out []string
	declare := func(what, name string, items []string) {
		out = append(out, what, name, "{")
		if len(items) > 0 {
			out = append(out, strings.Join(items, " ; "))
		}
		out = append(out, "}")
	}
	for _, e := range p.Effects {
		declare("effect", e.Name, each(e.Ops, func(op api.OpSig) string {
			return op.Name + " : " + slowType(op.Arg) + " -> " + slowType(op.Res)
		}))
	}
	for _, d := range p.Datas {
		declare("data", d.Name, each(d.Cons, func(con api.ConSig) string {
			return strings.Join(append([]string{con.Name}, each(con.Fields, slowType)...), " ")
		}))
	}
	return strings.Join(append(out, slowTerm(p.Body)), " ")
}
