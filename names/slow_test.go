package names_test

import (
	"slices"

	"brocade/api"
)

// stand is a variable at a place, and all names that are bound there.
type stand struct {
	name  string
	bound []string
}

// stands are all variables in a term, below some names.
func stands(t api.Term, bound ...string) []stand {
	var out []stand
	if t.Kind == api.TermVar {
		out = append(out, stand{t.Name, bound})
	}
	for n, kid := range t.Kids {
		names := bound
		switch t.Kind {
		case api.TermFun:
			names = and(bound, t.Name)
		case api.TermLet:
			if n == 1 {
				names = and(bound, t.Name)
			}
		case api.TermRec:
			names = and(bound, t.Name)
			if n == 0 {
				names = and(names, t.Param)
			}
		}
		out = append(out, stands(kid, names...)...)
	}
	for _, arm := range t.Arms {
		out = append(out, stands(arm.Body, and(bound, arm.Vars...)...)...)
	}
	return out
}

func and(names []string, more ...string) []string { return slices.Concat(names, more) }

// slowFree is at how many places each name stands free in a term.
func slowFree(t api.Term) map[string]int {
	counts := map[string]int{}
	for _, s := range stands(t) {
		if s.name == "_" || !slices.Contains(s.bound, s.name) {
			counts[s.name]++
		}
	}
	return counts
}

func slowValue(t api.Term) bool {
	if t.Kind == api.TermCon {
		for _, kid := range t.Kids {
			if !slowValue(kid) {
				return false
			}
		}
		return true
	}
	return t.Kind >= api.TermVar && t.Kind <= api.TermFun
}

// evaluated is all that is evaluated when a term is, it itself among that.
func evaluated(t api.Term) []api.Term {
	out := []api.Term{t}
	for n, kid := range t.Kids {
		if t.Kind != api.TermFun && (t.Kind != api.TermRec || n > 0) {
			out = append(out, evaluated(kid)...)
		}
	}
	for _, arm := range t.Arms {
		out = append(out, evaluated(arm.Body)...)
	}
	return out
}

func slowPlain(t api.Term) bool {
	return !slices.ContainsFunc(evaluated(t), func(t api.Term) bool {
		return slices.Contains([]int{api.TermApp, api.TermDo, api.TermHandle}, t.Kind)
	})
}

func slowQuiet(t api.Term) bool {
	labels := slices.DeleteFunc(slices.Clone(t.Row.Labels), func(label string) bool { return label == "console" })
	return slowPlain(t) || t.Row.Var == 0 && len(labels) == 0
}

func slowLast(a api.Arm) bool {
	if len(a.Vars) != 2 || a.Body.Kind != api.TermApp {
		return false
	}
	x, k, f := a.Vars[0], a.Vars[1], a.Body.Kids[0]
	return x != k && k != "_" && f.Kind == api.TermVar && f.Name == k && slowFree(a.Body)[k] == 1
}
