package names

import (
	"math"

	"brocade/api"
)

// free is at how many places names stand free in a term.
func free(t *api.Term) counts {
	b := book{counts: map[*api.Term]counts{}}
	return b.count(t)
}

// counts is at how many places names stand free in a term, for those that do.
type counts map[string]int

// book has the counts of terms that stand in several places.
type book struct {
	met    met
	counts map[*api.Term]counts
}

// lookUp is the counts of a term that was met ahead.
func (b *book) lookUp(t *api.Term) counts {
	known, there := b.counts[t]
	if !there {
		b.counts[t] = nil // for the term within itself
		known = b.count(t)
		b.counts[t] = known
	}
	return known
}

func (b *book) count(t *api.Term) counts {
	c := counter{b, map[string]int{}, counts{}}
	c.alone(t)
	return c.free
}

// counter counts at how many places names stand free in a term.
type counter struct {
	book  *book
	bound map[string]int // how many bind a name where it is
	free  counts         // of what it went through
}

// term goes through a term, or looks up what is free in it.
func (c *counter) term(t *api.Term) {
	if !c.book.met.again(t) {
		c.alone(t)
		return
	}
	for name, places := range c.book.lookUp(t) {
		c.add(name, places)
	}
}

// alone goes through a term, wherever that was met ahead.
func (c *counter) alone(t *api.Term) {
	if t.Kind == api.TermVar {
		c.add(t.Name, 1)
	}
	for n, part := range parts(t) {
		names := binds(t, n)
		c.bind(1, names...)
		c.term(part)
		c.bind(-1, names...)
	}
}

// bind lets one more, or one less, bind some names.
func (c *counter) bind(more int, names ...string) {
	for _, name := range names {
		if name != nobody {
			c.bound[name] += more
		}
	}
}

// add counts some places more at which a name stands, if it is not bound where the counter is. Terms that have lists
// together may have more places than there are numbers: the greatest one stands for these.
func (c *counter) add(name string, places int) {
	if c.bound[name] == 0 {
		c.free[name] += min(places, math.MaxInt-c.free[name])
	}
}
