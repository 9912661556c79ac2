package value

import (
	"strconv"
	"strings"

	"brocade/api"
)

// mostBytes is how long an answer may be, if something is promised of it. Values that have lists together again
// and again have texts that are longer than there is room for.
const mostBytes = 1<<31 - 1

// Text is its text (K2).
func Text(v api.Value) (string, api.Errno) {
	if !Right(v) {
		return "", api.ErrArg
	}
	size := sizes{}.of(&v)
	if size > mostBytes {
		return "", api.ErrLimit
	}
	var out strings.Builder
	out.Grow(size)
	write(&out, &v)
	return out.String(), api.OK
}

// sizes are how many bytes lists of kids have in a text.
type sizes map[list]int

// of is how many bytes a right value's text has; of one that is too long, some number above mostBytes.
func (s sizes) of(v *api.Value) int {
	size := len(word(v))
	if len(v.Kids) > 0 {
		size += s.within(v)
	}
	return min(size, mostBytes+1)
}

// within is how many bytes the text of a value has behind its word.
func (s sizes) within(v *api.Value) int {
	at := kids(v)
	size, known := s[at]
	if known {
		return size
	}
	for i := range v.Kids {
		size += s.of(&v.Kids[i]) + 2 // of kids that are n, n - 1 have ", " between, and all have "(" and ")" around
		size = min(size, mostBytes+1)
	}
	s[at] = size
	return size
}

func write(out *strings.Builder, v *api.Value) {
	out.WriteString(word(v))
	if len(v.Kids) == 0 {
		return
	}
	between := "("
	for i := range v.Kids {
		out.WriteString(between)
		write(out, &v.Kids[i])
		between = ", "
	}
	out.WriteString(")")
}

// word is what the text of a right value begins with, ahead of its kids.
func word(v *api.Value) string {
	switch v.Kind {
	case api.ValInt:
		return strconv.Itoa(v.N)
	case api.ValBool:
		return strconv.FormatBool(v.N == 1)
	case api.ValUnit:
		return "()"
	case api.ValRef:
		return "ref" + strconv.Itoa(v.N)
	case api.ValFun:
		return "fun"
	}
	return v.Name
}
