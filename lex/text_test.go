package lex_test

import (
	"slices"
	"strings"
	"testing"

	"brocade/api"
	"brocade/lex"
)

func TestText(t *testing.T) {
	for source, want := range map[string]string{
		"":                            "",
		" # a note":                   "",
		"x":                           "x",
		"x!":                          "x!",
		"f !x":                        "f ! x",
		"f!x":                         "f! x",
		"get!x->y":                    "get! x -> y",
		"A!read!":                     "A ! read !",
		"007a":                        "007 a",
		"let\n\tx:=(1)#note\nin B{}!": "let x := ( 1 ) in B { } !",
		":=:-->-":                     ":= : - -> -",
	} {
		l, _, _ := lex.Lex([]byte(source))
		if got := lex.Text(l); got != want {
			t.Errorf("%q: %q, not %q", source, got, want)
		}
	}
	if got := lex.Text(nil); got != "" {
		t.Errorf("no words: %q", got)
	}
	if got := lex.Text([]api.Token{}); got != "" {
		t.Errorf("no words: %q", got)
	}
}

// TestTextOfAny has words that no source has: Text looks at Text and at whether it is of TokDo, at nothing else.
func TestTextOfAny(t *testing.T) {
	l := []api.Token{{}, {Kind: api.TokDo}, {Kind: 99, Text: "$ \x00"}, {Kind: api.TokDo, Text: "A!", N: 5, At: -1}, {Kind: -1, Text: "z", N: 7}, {Kind: api.TokInt, Text: "x", N: 3}, {Kind: api.TokSmall, Text: ""}}
	kept := slices.Clone(l)
	if got, want := lex.Text(l), " ! $ \x00 A!! z x "; got != want {
		t.Errorf("%q, not %q", got, want)
	}
	if !slices.Equal(l, kept) {
		t.Errorf("the words became %v", l)
	}
}

// again lexes the text of a source's words and holds both rows of words against each other, but for At.
func again(t *testing.T, source string) {
	t.Helper()
	l, _, err := lex.Lex([]byte(source))
	if err != api.OK {
		return
	}
	text := lex.Text(l)
	back, at, err := lex.Lex([]byte(text))
	if err != api.OK || at != 0 || len(back) != len(l) {
		t.Fatalf("%q: %q: %v %d %v", source, text, back, at, err)
	}
	at = 0
	for i, word := range back {
		if word.At != at {
			t.Fatalf("%q: %q: word %d begins at %d, not at %d", source, text, i, word.At, at)
		}
		if word.At = l[i].At; word != l[i] {
			t.Fatalf("%q: %q: %v, not %v", source, text, word, l[i])
		}
		if at += len(word.Text) + 1; word.Kind == api.TokDo {
			at++
		}
	}
}

func TestTextLexedAgain(t *testing.T) {
	pieces := append(slices.Concat(keywords, signs), "a", "get!", "_", "X", "Long1", "7", "007", greatest, "#n\n", " ", "\n", "fun!", "!", strings.Repeat("q", 60))
	seed := uint32(1)
	for range 3000 {
		var source strings.Builder
		for range 12 {
			seed = seed*1664525 + 1013904223
			source.WriteString(pieces[int(seed>>8)%len(pieces)])
			if seed>>30 == 0 {
				source.WriteByte(' ')
			}
		}
		again(t, source.String())
	}
}
