package lex

import (
	"strconv"
	"strings"

	"brocade/api"
)

// signs has each sign ahead of those that it begins with, so that the first that fits is the longest.
var signs = [...]string{"->", ":=", "(", ")", "{", "}", ",", ";", ":", "=", "+", "-", "*", "/", "<", "!"}

// kind is a row of the table of what begins a word: whether one begins there,
// and the word (but for At), how many bytes it has there, and whether it may be.
type kind struct {
	begins func(rest string) bool
	read   func(rest string) (api.Token, int, bool)
}

// kinds is the table; no two rows begin with the same byte, but the signs.
func kinds() []kind {
	digit, letter, inside := within("09"), within("AZaz__"), within("AZaz__09")
	table := []kind{
		{ahead(digit), func(rest string) (api.Token, int, bool) { return number(rest, span(rest, digit)) }},
		{ahead(letter), func(rest string) (api.Token, int, bool) { return name(rest, span(rest, inside)) }},
	}
	for _, sign := range signs {
		table = append(table, signKind(sign))
	}
	return table
}

// first is the word that begins a text, by the first row that knows how it begins.
func first(table []kind, rest string) (api.Token, int, bool) {
	for _, k := range table {
		if k.begins(rest) {
			return k.read(rest)
		}
	}
	return api.Token{}, 0, false
}

// within makes a test of bytes: does one lie in one of some ranges, each told by its two ends?
func within(ends string) func(c byte) bool {
	return func(c byte) bool {
		for i := 0; i+1 < len(ends); i += 2 {
			if ends[i] <= c && c <= ends[i+1] {
				return true
			}
		}
		return false
	}
}

// ahead makes of a test of bytes one of a text's first byte.
func ahead(test func(c byte) bool) func(rest string) bool {
	return func(rest string) bool { return rest != "" && test(rest[0]) }
}

// span tells how many bytes at a text's beginning pass a test.
func span(rest string, test func(c byte) bool) int {
	size := 0
	for size < len(rest) && test(rest[size]) {
		size++
	}
	return size
}

func signKind(sign string) kind {
	word := api.Token{Kind: api.TokSign, Text: sign}
	return kind{
		begins: func(rest string) bool { return strings.HasPrefix(rest, sign) },
		read:   func(string) (api.Token, int, bool) { return word, len(sign), true },
	}
}

func number(rest string, size int) (api.Token, int, bool) {
	text := rest[:size]
	n, err := strconv.ParseInt(text, 10, 64)
	if err != nil { // digits fail only by being too great
		return api.Token{}, 0, false
	}
	return api.Token{Kind: api.TokInt, Text: text, N: int(n)}, size, true
}

func name(rest string, size int) (api.Token, int, bool) {
	if size > MaxName {
		return api.Token{}, 0, false
	}
	text := rest[:size]
	switch {
	case 'A' <= text[0] && text[0] <= 'Z':
		return api.Token{Kind: api.TokLarge, Text: text}, size, true
	case keyword(text):
		return api.Token{Kind: api.TokKey, Text: text}, size, true
	case strings.HasPrefix(rest[size:], "!"):
		return api.Token{Kind: api.TokDo, Text: text}, size + 1, true
	}
	return api.Token{Kind: api.TokSmall, Text: text}, size, true
}

func keyword(text string) bool {
	switch text {
	case "fun", "let", "in", "rec", "if", "then", "else", "match", "handle", "return",
		"effect", "data", "print", "read", "ref", "true", "false", "int", "bool", "unit":
		return true
	}
	return false
}
