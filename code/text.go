package code

import (
	"slices"
	"strconv"
	"strings"

	"brocade/api"
)

// word is a word of a text, or a piece whose text stands there.
type word struct {
	text  string
	piece *api.Code
}

// line is words, one behind the other.
type line []word

// words is the text of a right piece.
func words(c *api.Code) line {
	switch c.Kind {
	case api.CodeVar:
		return line{}.say(c.Name)
	case api.CodeInt:
		return line{}.say(strconv.Itoa(c.N))
	case api.CodeBool:
		return line{}.say(strconv.FormatBool(c.N == 1))
	case api.CodeUnit:
		return line{}.say("unit")
	case api.CodeFun:
		return line{}.say("fun", c.Name).braces(c.Kids)
	case api.CodeApp:
		return line{}.say("call").atoms(c.Kids)
	case api.CodeLet:
		return line{}.say("let", c.Name).braces(c.Kids)
	case api.CodeBind:
		return line{}.say("bind", c.Name).braces(c.Kids)
	case api.CodeRec:
		return line{}.say("rec", c.Name, c.Param).braces(c.Kids)
	case api.CodeIf:
		return line{}.say("if").atoms(c.Kids[:1]).braces(c.Kids[1:])
	case api.CodeOp:
		return line{}.say("op", c.Name).atoms(c.Kids)
	case api.CodeCon:
		return line{}.say("con", c.Name).atoms(c.Kids)
	case api.CodeMatch:
		return line{}.say("match").atoms(c.Kids).arms(c.Arms)
	case api.CodeYield:
		return line{}.say("yield", c.Name).atoms(c.Kids)
	default:
		return line{}.say("prompt", c.Name).braces(c.Kids).arms(c.Arms)
	}
}

func (l line) say(texts ...string) line {
	for _, text := range texts {
		l = append(l, word{text: text})
	}
	return l
}

// brace is with a piece in braces.
func (l line) brace(c *api.Code) line {
	return append(l, word{text: "{"}, word{piece: c}, word{text: "}"})
}

// braces is with some pieces, each in braces.
func (l line) braces(pieces []api.Code) line {
	for n := range pieces {
		l = l.brace(&pieces[n])
	}
	return l
}

// atoms is with some atoms that are not bodies: functions are in braces.
func (l line) atoms(pieces []api.Code) line {
	for n := range pieces {
		if pieces[n].Kind == api.CodeFun {
			l = l.brace(&pieces[n])
		} else {
			l = append(l, word{piece: &pieces[n]})
		}
	}
	return l
}

func (l line) arms(arms []api.CodeArm) line {
	for n := range arms {
		l = l.say("|")
		if arms[n].Tail {
			l = l.say("tail")
		}
		l = l.say(arms[n].Name).say(arms[n].Vars...).brace(&arms[n].Body)
	}
	return l
}

// ownBytes is how many bytes a right piece's own words have, and a space behind each one.
func ownBytes(c *api.Code) int {
	count := 0
	for _, w := range words(c) {
		if w.piece == nil {
			count += len(w.text) + 1
		}
	}
	return count
}

// write is the text of right code, that has so many bytes.
func write(c *api.Code, size int) string {
	var out strings.Builder
	out.Grow(size)
	todo := line{{piece: c}}
	for len(todo) > 0 {
		last := len(todo) - 1
		next := todo[last]
		todo = todo[:last]
		if next.piece != nil {
			inner := words(next.piece)
			slices.Reverse(inner)
			todo = append(todo, inner...)
			continue
		}
		if out.Len() > 0 {
			out.WriteString(" ")
		}
		out.WriteString(next.text)
	}
	return out.String()
}
