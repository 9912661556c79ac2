package scope

import (
	"slices"

	"brocade/api"
)

// nobody is the name that is never bound.
const nobody = "_"

// checker looks for what is wrong with terms, and knows which names are bound where it is.
type checker struct {
	*declared
	bound map[string]int            // how many bind it there
	met   map[*api.Term]struct{}    // terms that it was at, and found nothing wrong with, or still is within
	known map[*api.Term][]*api.Term // what is free in terms that stand in several places
}

func newChecker(d *declared) *checker {
	return &checker{
		declared: d,
		bound:    map[string]int{},
		met:      map[*api.Term]struct{}{},
		known:    map[*api.Term][]*api.Term{},
	}
}

// wrong is the first wrong one of a term and those within it; nil if all are right. Only names that are
// bound at one place and not at the other can be wrong with a term that it meets again, so terms that have
// lists together, or that stand within themselves, are not gone through again and again.
func (c *checker) wrong(t *api.Term) *api.Term {
	if _, again := c.met[t]; again {
		return c.unbound(c.free(t)...)
	}
	c.met[t] = struct{}{}
	if !c.alone(t) || t.Kind == api.TermVar && c.unbound(t) != nil {
		return t
	}
	for part, names := range parts(t) {
		c.bind(1, names...)
		wrong := c.wrong(part)
		c.bind(-1, names...)
		if wrong != nil {
			return wrong
		}
	}
	return nil
}

// bind lets one more, or one less, bind some names.
func (c *checker) bind(more int, names ...string) {
	for _, name := range names {
		if name != nobody {
			c.bound[name] += more
		}
	}
}

// unbound is the first of some variables that is not bound; nil if all are.
func (c *checker) unbound(variables ...*api.Term) *api.Term {
	variable, _ := first(variables, func(v *api.Term) bool { return c.bound[v.Name] == 0 })
	return variable
}

// free is the variables that stand in a term and are not bound in it: of each name the first one, in order.
func (c *checker) free(t *api.Term) []*api.Term {
	if variables, known := c.known[t]; known {
		return variables
	}
	c.known[t] = nil // for the term within itself
	var variables []*api.Term
	if t.Kind == api.TermVar {
		variables = append(variables, t)
	}
	listed := map[string]struct{}{}
	for part, names := range parts(t) {
		for _, v := range c.free(part) {
			if _, again := listed[v.Name]; !again && !slices.Contains(names, v.Name) {
				listed[v.Name] = struct{}{}
				variables = append(variables, v)
			}
		}
	}
	c.known[t] = variables
	return variables
}
