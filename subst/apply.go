package subst

import (
	"slices"

	"brocade/api"
	"brocade/types"
)

// Apply is a type with what s says in the stead of its variables (E2).
func (s Subst) Apply(t api.Type) api.Type {
	a := applier{by: s}
	if s.pieces(t, api.MaxPieces) > api.MaxPieces {
		a.made = map[place][]api.Type{}
	}
	return a.whole(t)
}

// ApplyRow is a row with what s says in the stead of its variable (E2).
func (s Subst) ApplyRow(r api.Row) api.Row {
	said, known := s.insteadOfRow(r)
	if !known {
		return copiedRow(r)
	}
	labels := slices.Concat(r.Labels, said.Labels)
	return copiedRow(types.Sorted(api.Row{Labels: labels, Var: said.Var}))
}

// copied is a type with lists of its own.
func copied(t api.Type) api.Type { return None().Apply(t) }

// copiedRow is a row with labels of its own, nil if there are none.
func copiedRow(r api.Row) api.Row {
	return api.Row{Labels: slices.Concat(r.Labels), Var: r.Var}
}

// insteadOfType is what s says of a type, if that is a variable.
func (s Subst) insteadOfType(t api.Type) (api.Type, bool) {
	if t.Kind != api.TypVar {
		return api.Type{}, false
	}
	return s.types.of(t.Var)
}

// insteadOfRow is what s says of a row's variable; a closed row has none, whatever is said of 0.
func (s Subst) insteadOfRow(r api.Row) (api.Row, bool) {
	if r.Var == 0 {
		return api.Row{}, false
	}
	return s.rows.of(r.Var)
}

// pieces counts the pieces of what becomes of a type, until there are more than most.
func (s Subst) pieces(t api.Type, most int) int {
	if said, known := s.insteadOfType(t); known {
		return None().pieces(said, most)
	}
	count := 1
	for _, arg := range t.Args {
		if count > most {
			break
		}
		count += s.pieces(arg, most-count)
	}
	return count
}
