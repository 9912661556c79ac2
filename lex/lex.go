// Package lex is layer 1: see shared/doc/01-lex.md.
package lex

import (
	"strings"

	"brocade/api"
)

// MaxName is how many bytes a name has at most.
const MaxName = 60

// Lex is the words of a source, or where the first thing begins that is none (A1).
func Lex(b []byte) ([]api.Token, int, api.Errno) {
	if len(b) > api.MaxSource {
		return nil, 0, api.ErrLimit
	}
	source := string(b) // a copy: the words' texts are pieces of it, so b may be written over
	table := kinds()
	var words []api.Token
	for at := skip(source, 0); at < len(source); {
		word, size, ok := first(table, source[at:])
		if !ok {
			return nil, at, api.ErrLex
		}
		word.At = at
		words = append(words, word)
		at = skip(source, at+size)
	}
	return words, 0, api.OK
}

// Text is words as a text (A2).
func Text(l []api.Token) string {
	var out strings.Builder
	for i, word := range l {
		if i > 0 {
			out.WriteByte(' ')
		}
		out.WriteString(word.Text)
		if word.Kind == api.TokDo {
			out.WriteByte('!')
		}
	}
	return out.String()
}

// skip tells where the blanks end that begin at a byte.
func skip(source string, at int) int {
	for at < len(source) {
		switch source[at] {
		case ' ', '\t', '\r', '\n':
			at++
		case '#':
			at += note(source[at:])
		default:
			return at
		}
	}
	return at
}

// note tells how many bytes a note has, less the line feed, which is a blank by itself.
func note(rest string) int {
	if size := strings.IndexByte(rest, '\n'); size >= 0 {
		return size
	}
	return len(rest)
}
