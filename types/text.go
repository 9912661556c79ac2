package types

import (
	"slices"
	"strconv"
	"strings"

	"brocade/api"
)

// Text is a right type as text; nothing of others (D3).
func Text(t api.Type) string {
	if !Right(t) {
		return ""
	}
	return text(t)
}

// text is the text of a type that is right.
func text(t api.Type) string {
	switch t.Kind {
	case api.TypInt:
		return "int"
	case api.TypBool:
		return "bool"
	case api.TypUnit:
		return "unit"
	case api.TypVar:
		return "'" + strconv.Itoa(t.Var)
	case api.TypRef:
		return "ref " + bracketed(t.Args[0], api.TypFun, api.TypRef)
	case api.TypFun:
		return bracketed(t.Args[0], api.TypFun) + " -> " + rowText(t.Row) + text(t.Args[1])
	}
	return t.Name
}

// bracketed is the text of a type, in brackets if it is of one of some kinds.
func bracketed(t api.Type, kinds ...int) string {
	if slices.Contains(kinds, t.Kind) {
		return "(" + text(t) + ")"
	}
	return text(t)
}

// rowText is the text of a function's row, with the space that is behind it.
func rowText(r api.Row) string {
	if len(r.Labels) == 0 && r.Var == 0 {
		return ""
	}
	labels := strings.Join(r.Labels, ",")
	if r.Var != 0 {
		labels += "|" + strconv.Itoa(r.Var)
	}
	return "<" + labels + "> "
}
