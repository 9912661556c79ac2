package lex_test

import (
	"math/big"
	"regexp"
	"slices"
	"strings"
	"testing"

	"brocade/api"
	"brocade/lex"
)

var (
	slowBlank  = regexp.MustCompile(`^(?s:[ \t\r\n]|#[^\n]*)+`)
	slowNumber = regexp.MustCompile(`^[0-9]+`)
	slowName   = regexp.MustCompile(`^[A-Za-z_][A-Za-z_0-9]*`)
	slowSign   = regexp.MustCompile(`^(->|:=|[(){},;:=+*/<!-])`)
)

// slowWord is the word that begins a text, read another way than by package lex, and how many bytes it has; 0 if it may not be.
func slowWord(rest string) (api.Token, int) {
	if text := slowNumber.FindString(rest); text != "" {
		n, _ := new(big.Int).SetString(text, 10)
		if !n.IsInt64() {
			return api.Token{}, 0
		}
		return api.Token{Kind: api.TokInt, Text: text, N: int(n.Int64())}, len(text)
	}
	if text := slowSign.FindString(rest); text != "" {
		return api.Token{Kind: api.TokSign, Text: text}, len(text)
	}
	text := slowName.FindString(rest)
	switch {
	case text == "" || len(text) > 60:
		return api.Token{}, 0
	case text[0] >= 'A' && text[0] <= 'Z':
		return api.Token{Kind: api.TokLarge, Text: text}, len(text)
	case slices.Contains(keywords, text):
		return api.Token{Kind: api.TokKey, Text: text}, len(text)
	case strings.HasPrefix(rest, text+"!"):
		return api.Token{Kind: api.TokDo, Text: text}, len(text) + 1
	}
	return api.Token{Kind: api.TokSmall, Text: text}, len(text)
}

func slowLex(source string) ([]api.Token, int, api.Errno) {
	var l []api.Token
	at := len(slowBlank.FindString(source))
	for at < len(source) {
		word, size := slowWord(source[at:])
		if size == 0 {
			return nil, at, api.ErrLex
		}
		word.At = at
		l = append(l, word)
		at += size
		at += len(slowBlank.FindString(source[at:]))
	}
	return l, 0, api.OK
}

func holdAgainstSlow(t *testing.T, source string) {
	t.Helper()
	l, at, err := lex.Lex([]byte(source))
	want, wantAt, wantErr := slowLex(source)
	if !slices.Equal(l, want) || at != wantAt || err != wantErr {
		t.Fatalf("%q: %v %d %v, not %v %d %v", source, l, at, err, want, wantAt, wantErr)
	}
}

// TestAllShortSources holds Lex against the slow way for all sources of some few bytes, one of each sort.
func TestAllShortSources(t *testing.T) {
	const sorts = "aZ_0!->:=#\n (if$\xc3"
	short := []string{""}
	for range 4 {
		var longer []string
		for _, source := range short {
			for i := range len(sorts) {
				longer = append(longer, source+sorts[i:i+1])
			}
		}
		for _, source := range longer {
			holdAgainstSlow(t, source)
			again(t, source)
		}
		short = longer
	}
}

func TestLongerSources(t *testing.T) {
	pieces := append(slices.Concat(keywords, signs), "x", "Y", "_z!", "42", " ", "\n", "#", "\r", greatest, strings.Repeat("b", 59))
	seed := uint32(7)
	for range 20000 {
		var source strings.Builder
		for range 10 {
			seed = seed*1664525 + 1013904223
			source.WriteString(pieces[int(seed>>8)%len(pieces)])
		}
		holdAgainstSlow(t, source.String())
		again(t, source.String())
	}
}
