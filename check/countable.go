package check

import "brocade/api"

const (
	// mostLevels is as many levels as something is promised of. Terms that stand within themselves have more.
	mostLevels = 1 << 16
	// mostTerms is more terms than there is room for in what is handed in, if something is promised of it (2^31 - 1
	// bytes). Terms that have lists together again and again are more, told apart.
	mostTerms = 1 << 23
)

// countable tells whether a term is not too deep, nor too many terms.
func countable(t *api.Term) bool {
	room := mostTerms
	return fits(t, mostLevels, &room)
}

// fits tells whether a term has no more levels, and is no more terms, than there is room for; it takes that room.
func fits(t *api.Term, levels int, room *int) bool {
	*room--
	if levels == 0 || *room < 0 {
		return false
	}
	for n := range t.Kids {
		if !fits(&t.Kids[n], levels-1, room) {
			return false
		}
	}
	for n := range t.Arms {
		if !fits(&t.Arms[n].Body, levels-1, room) {
			return false
		}
	}
	return true
}
