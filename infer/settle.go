package infer

import (
	"brocade/api"
	"brocade/subst"
	"brocade/types"
)

// settle puts into the types and rows of all terms what is said of variables, and numbers those that are left.
func (i *inferrer) settle(body *api.Term) bool {
	var numbers numbering
	return walk(body, deepest, func(t *api.Term) bool {
		for _, place := range []*api.Type{&t.Type, &t.Own} {
			whole, err := i.whole(*place)
			if !i.right(t, err) {
				return false
			}
			*place = numbers.of(whole)
		}
		whole, err := i.wholeRow(t.Row)
		t.Row = numbers.ofRow(whole)
		return i.right(t, err)
	})
}

// numbering numbers variables as they are met, types and rows each by themselves.
type numbering struct {
	subst.Subst
	types, rows int // how many were met
}

func (n *numbering) of(t api.Type) api.Type {
	kinds, rows := types.Vars(t)
	for _, kind := range kinds {
		n.meetType(kind)
	}
	for _, row := range rows {
		n.meetRow(row)
	}
	return n.Apply(t)
}

func (n *numbering) ofRow(r api.Row) api.Row {
	if r.Var != 0 {
		n.meetRow(r.Var)
	}
	return n.ApplyRow(r)
}

func (n *numbering) meetType(number int) {
	if _, met := n.Type(number); !met {
		n.types++
		n.Subst = n.SetType(number, api.Type{Kind: api.TypVar, Var: n.types})
	}
}

func (n *numbering) meetRow(number int) {
	if _, met := n.Row(number); !met {
		n.rows++
		n.Subst = n.SetRow(number, api.Row{Var: n.rows})
	}
}
