package types

import (
	"slices"

	"brocade/api"
)

// Right tells whether a type is right (D1).
func Right(t api.Type) bool {
	return Depth(t) <= api.MaxDeep && judge{counts: counts(), seen: seen{}}.right(&t)
}

// RightRow tells whether a row is right (D1).
func RightRow(r api.Row) bool {
	return r.Var >= 0 && slices.IsSorted(r.Labels) && !slices.Contains(r.Labels, "")
}

// judge tells which types are right.
type judge struct {
	counts map[int]int // how many Args a kind has
	seen   seen
}

func counts() map[int]int {
	return map[int]int{
		api.TypInt: 0, api.TypBool: 0, api.TypUnit: 0, api.TypData: 0, api.TypVar: 0,
		api.TypRef: 1, api.TypFun: 2,
	}
}

// right tells whether a type that is not too deep is right.
func (j judge) right(t *api.Type) bool {
	if !j.seen.first(t) {
		return true // had it been wrong, nobody would ask any more
	}
	if !j.alone(t) {
		return false
	}
	for i := range t.Args {
		if !j.right(&t.Args[i]) {
			return false
		}
	}
	return true
}

// alone tells whether a type is right if its Args are.
func (j judge) alone(t *api.Type) bool {
	count, known := j.counts[t.Kind]
	return known && len(t.Args) == count && nameRight(t) && varRight(t) && rowRight(t)
}

func nameRight(t *api.Type) bool { return (t.Name != "") == (t.Kind == api.TypData) }

func varRight(t *api.Type) bool {
	if t.Kind == api.TypVar {
		return t.Var >= 1
	}
	return t.Var == 0
}

func rowRight(t *api.Type) bool {
	if t.Kind == api.TypFun {
		return RightRow(t.Row)
	}
	return len(t.Row.Labels) == 0 && t.Row.Var == 0
}
