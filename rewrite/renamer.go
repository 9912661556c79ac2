package rewrite

import (
	"slices"
	"strconv"

	"brocade/api"
)

// renamer numbers the names that are bound in terms.
type renamer struct {
	steps
	count int   // how many it numbered
	bound bound // what names became where it is
}

// term numbers the names that are bound in a term, and gives it lists of its own, whose terms are still to do.
func (r *renamer) term(t *api.Term) {
	if number := r.bound.number(t.Name); t.Kind == api.TermVar && number != 0 {
		t.Name = numbered(t.Name, number)
	}
	names, first := binds(t), r.count+1
	rename(t, r.number(names...)...)
	t.Kids, t.Arms = slices.Clone(t.Kids), slices.Clone(t.Arms)
	for n := range slices.Backward(t.Arms) {
		r.later(func() { r.arm(&t.Arms[n]) })
	}
	for n := range slices.Backward(t.Kids) {
		r.later(func() { r.within(&t.Kids[n], first, names[:reach(t, n)]...) })
	}
}

func (r *renamer) arm(a *api.Arm) {
	names, first := a.Vars, r.count+1
	a.Vars = r.number(names...)
	r.within(&a.Body, first, names...)
}

// within is term, where some more names are bound, by the numbers from first on.
func (r *renamer) within(t *api.Term, first int, names ...string) {
	r.bound.enter(first, names...)
	r.later(func() { r.bound.leave(names...) })
	r.term(t)
}

// number is what names become, each by the next number.
func (r *renamer) number(names ...string) []string {
	became := slices.Clone(names)
	for n, name := range names {
		r.count++
		became[n] = numbered(name, r.count)
	}
	return became
}

func numbered(name string, number int) string { return name + "'" + strconv.Itoa(number) }

// rename lets a term bind other names in its kids.
func rename(t *api.Term, names ...string) {
	if len(names) > 0 {
		t.Name = names[0]
	}
	if len(names) > 1 {
		t.Param = names[1]
	}
}
