package parse

import (
	"slices"

	"brocade/api"
)

// row is the words that are yet to be read, and how many bytes their source has.
type row struct {
	words []api.Token
	size  int
}

// where tells at which byte the next word begins; behind the last word, where the source ends.
func (r *row) where() int {
	if len(r.words) == 0 {
		return r.size
	}
	return r.words[0].At
}

// is tells whether the next word is one of some keywords and signs.
func (r *row) is(texts ...string) bool {
	return r.isOf(api.TokKey, api.TokSign) && slices.Contains(texts, r.words[0].Text)
}

// isOf tells whether the next word is of one of some kinds.
func (r *row) isOf(kinds ...int) bool {
	return len(r.words) > 0 && slices.Contains(kinds, r.words[0].Kind)
}

// take takes the next word; there has to be one.
func (r *row) take() api.Token {
	word := r.words[0]
	r.words = r.words[1:]
	return word
}

// takeIf takes the next word if it is one of some keywords and signs.
func (r *row) takeIf(texts ...string) bool {
	if !r.is(texts...) {
		return false
	}
	r.take()
	return true
}

// drop leaves no words.
func (r *row) drop() { r.words = nil }
