package rewrite_test

import (
	"fmt"
	"slices"
	"strings"

	"brocade/api"
)

// became is what a name that is bound became.
type became struct{ was, is string }

// numberer numbers names; each term gets a list of its own of what names became there.
type numberer struct{ count int }

func slowApart(t api.Term) api.Term {
	var n numberer
	return n.term(t, nil)
}

func (n *numberer) name(was string) became {
	n.count++
	return became{was, fmt.Sprintf("%s'%d", was, n.count)}
}

func (n *numberer) term(t api.Term, around []became) api.Term {
	var own []became
	switch t.Kind {
	case api.TermVar:
		for _, b := range around {
			if b.was == t.Name && b.was != "_" {
				t.Name = b.is
				break
			}
		}
	case api.TermFun, api.TermLet:
		own = []became{n.name(t.Name)}
		t.Name = own[0].is
	case api.TermRec:
		own = []became{n.name(t.Name), n.name(t.Param)}
		t.Name, t.Param = own[0].is, own[1].is
	}
	kids := t.Kids
	t.Kids = nil
	for place, kid := range kids {
		inner := around
		switch {
		case t.Kind == api.TermFun, t.Kind == api.TermLet && place == 1, t.Kind == api.TermRec && place == 1:
			inner = slices.Concat(own[:1], around)
		case t.Kind == api.TermRec && place == 0:
			inner = slices.Concat([]became{own[1], own[0]}, around)
		}
		t.Kids = append(t.Kids, n.term(kid, inner))
	}
	arms := t.Arms
	t.Arms = nil
	for _, arm := range arms {
		var names []became
		var vars []string
		for _, was := range arm.Vars {
			names = append(names, n.name(was))
			vars = append(vars, names[len(names)-1].is)
		}
		slices.Reverse(names)
		t.Arms = append(t.Arms, api.Arm{Name: arm.Name, Vars: vars, Body: n.term(arm.Body, slices.Concat(names, around))})
	}
	return t
}

// nameless is a text of a term in which a variable that is bound is the number of names that are bound between it and
// its binder.
func nameless(t api.Term, bound ...string) string {
	name, param := t.Name, t.Param
	switch t.Kind {
	case api.TermVar:
		name = fmt.Sprintf("free %q", t.Name)
		if at := lastIndex(bound, t.Name); at >= 0 && t.Name != "_" {
			name = fmt.Sprintf("bound %d", len(bound)-1-at)
		}
	case api.TermFun, api.TermLet:
		name = ""
	case api.TermRec:
		name, param = "", ""
	}
	words := []string{fmt.Sprintf("%d %q %q %d", t.Kind, name, param, t.N)}
	for place, kid := range t.Kids {
		inner := bound
		switch {
		case t.Kind == api.TermFun, t.Kind == api.TermLet && place == 1, t.Kind == api.TermRec && place == 1:
			inner = slices.Concat(bound, []string{t.Name})
		case t.Kind == api.TermRec && place == 0:
			inner = slices.Concat(bound, []string{t.Name, t.Param})
		}
		words = append(words, "("+nameless(kid, inner...)+")")
	}
	for _, arm := range t.Arms {
		words = append(words, fmt.Sprintf("{%q %d %s}", arm.Name, len(arm.Vars), nameless(arm.Body, slices.Concat(bound, arm.Vars)...)))
	}
	return strings.Join(words, " ")
}

func lastIndex(names []string, name string) int {
	for n := len(names) - 1; n >= 0; n-- {
		if names[n] == name {
			return n
		}
	}
	return -1
}

// stands are the names that a term binds, in order, and those of its variables.
func stands(t api.Term) (bound, variables []string) {
	switch t.Kind {
	case api.TermVar:
		variables = append(variables, t.Name)
	case api.TermFun, api.TermLet:
		bound = append(bound, t.Name)
	case api.TermRec:
		bound = append(bound, t.Name, t.Param)
	}
	for _, kid := range t.Kids {
		inner, others := stands(kid)
		bound, variables = append(bound, inner...), append(variables, others...)
	}
	for _, arm := range t.Arms {
		inner, others := stands(arm.Body)
		bound, variables = append(append(bound, arm.Vars...), inner...), append(variables, others...)
	}
	return bound, variables
}
