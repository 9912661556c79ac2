package unify

import "brocade/api"

// rows unifies two rows.
func (u *unifier) rows(a, b api.Row) api.Errno {
	a, b = u.said.ApplyRow(a), u.said.ApplyRow(b)
	moreA, moreB := more(a.Labels, b.Labels), more(b.Labels, a.Labels)
	switch {
	case len(moreA) == 0 && len(moreB) == 0:
		return u.ends(a.Var, b.Var)
	case len(moreA) > 0 && b.Var == 0, len(moreB) > 0 && a.Var == 0, a.Var == b.Var:
		return api.ErrType
	case len(moreB) == 0:
		return u.beRow(b.Var, api.Row{Labels: moreA, Var: a.Var})
	case len(moreA) == 0:
		return u.beRow(a.Var, api.Row{Labels: moreB, Var: b.Var})
	}
	fresh := u.next
	u.next++
	return inOrder(
		func() api.Errno { return u.beRow(a.Var, api.Row{Labels: moreB, Var: fresh}) },
		func() api.Errno { return u.beRow(b.Var, api.Row{Labels: moreA, Var: fresh}) },
	)
}

// ends unifies two rows that have the same labels, told by their variables.
func (u *unifier) ends(a, b int) api.Errno {
	switch {
	case a == b:
		return api.OK
	case a == 0:
		return u.beRow(b, api.Row{})
	}
	return u.beRow(a, api.Row{Var: b})
}

// more is the labels that a list has more than another one, each as often as it has it more.
func more(labels, other []string) []string {
	left := map[string]int{}
	for _, label := range other {
		left[label]++
	}
	var out []string
	for _, label := range labels {
		if left[label] > 0 {
			left[label]--
		} else {
			out = append(out, label)
		}
	}
	return out
}
