package code_test

import (
	"testing"

	"brocade/code"
)

// TestOwnersHanded: what a call is handed stays as it was (R1).
func TestOwnersHanded(t *testing.T) {
	luck := dice(6)
	for n := range 500 {
		c := luck.code(6)
		if n%2 > 0 {
			luck.spoil(&c)
		}
		kept := copied(c)
		code.Right(c)
		code.Free(c)
		code.Size(c)
		code.Text(c)
		want(t, kept, copied(c), kept)
	}
}

// TestOwnersAnswers writes over a list that was answered: nothing else changes (R1).
func TestOwnersAnswers(t *testing.T) {
	c := read(t, "match x | A a b { con C a y z x } | B { k }")
	kept := copied(c)
	list := code.Free(c)
	over := list[:cap(list)]
	for n := range over {
		over[n] = "over"
	}
	want(t, "code", c, kept)
	want(t, "again", code.Free(c), []string{"k", "x", "y", "z"})
}

// TestOwnersKeep: what was answered stays, whatever becomes of what was handed in.
func TestOwnersKeep(t *testing.T) {
	text := "let x { y } { prompt E { call x z } | return x { k } }"
	c := read(t, text)
	list := code.Free(c)
	got, _ := code.Text(c)
	for _, at := range within(&c) {
		at.Name = "over"
	}
	want(t, "list", list, []string{"k", "y", "z"})
	want(t, "text", got, text)
	want(t, "now", code.Free(c), []string{"over"})
}
