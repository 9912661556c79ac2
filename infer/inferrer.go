package infer

import (
	"slices"

	"brocade/api"
	"brocade/scheme"
)

// inferrer finds the types of a program's terms.
type inferrer struct {
	*variables
	declared
	names map[string]*known
	at    int // of the term at which there is an error
	err   api.Errno
}

// known is a name that is known, with its scheme.
type known struct {
	scheme.Scheme
	name  string
	outer *known // what the name stands for around
}

func newInferrer(p api.Program) *inferrer {
	return &inferrer{variables: newVariables(), declared: declare(p), names: map[string]*known{}}
}

// single is a name that is of one type alone.
func single(name string, t api.Type) known { return known{Scheme: scheme.Bare(t), name: name} }

// right tells whether there is no error, and keeps one, and at which term it is.
func (i *inferrer) right(t *api.Term, err api.Errno) bool {
	if err != api.OK {
		i.at, i.err = t.At, err
	}
	return err == api.OK
}

// is lets a term be of a type.
func (i *inferrer) is(t *api.Term, of api.Type) bool { return i.right(t, i.same(t.Type, of)) }

// with finds the type of a term within which some names more are known, the later ones over the earlier ones.
func (i *inferrer) with(t *api.Term, r api.Row, names ...known) bool {
	for n := range names {
		k := &names[n]
		k.outer = i.names[k.name]
		i.names[k.name] = k
	}
	right := i.term(t, r)
	for _, k := range slices.Backward(names) {
		i.names[k.name] = k.outer
	}
	return right
}

// generalized is the scheme of a type that stands at a term, once it is found.
func (i *inferrer) generalized(t *api.Term, of *api.Type, find func() bool) (scheme.Scheme, bool) {
	i.level++
	found := find()
	i.level--
	if !found {
		return scheme.Scheme{}, false
	}
	whole, err := i.whole(*of)
	return i.general(whole), i.right(t, err)
}
