package rewrite

// variables are the names of two variables at the same place.
type variables struct{ left, right string }

// free is which variables stand free at the same places of two terms.
type free map[variables]struct{}

// same tells whether the names on both sides are the same.
func (f free) same() bool {
	for v := range f {
		if v.left != v.right {
			return false
		}
	}
	return true
}

// book tells which pairs were met, and what is free in those that were met again, so that terms that have lists
// together, or that stand within themselves, are not gone through again and again.
type book struct {
	steps
	unlike bool              // two terms can't be alike, wherever they stand
	met    map[pair]struct{} // but for those without parts
	known  map[pair]free
}

func newBook() *book { return &book{met: map[pair]struct{}{}, known: map[pair]free{}} }

// end is for two terms that can't be alike: nothing is left to do.
func (b *book) end() {
	b.unlike = true
	b.steps = nil
}

// again tells whether a pair was met ahead; now it is.
func (b *book) again(p pair) bool {
	if len(p.left.Kids)+len(p.left.Arms) == 0 {
		return false
	}
	_, again := b.met[p]
	b.met[p] = struct{}{}
	return again
}

// learn lets it be known what is free in a pair, once the steps are done that it adds.
func (b *book) learn(p pair) {
	if _, there := b.known[p]; there {
		return
	}
	b.known[p] = nil // for the pair within itself
	m := newMatcher(b)
	b.later(func() { b.known[p] = m.free })
	m.alone(p)
}
