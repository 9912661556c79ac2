package types_test

import "brocade/api"

// bare is a type with lists of its own, that are nil if they have no items.
func bare(t api.Type) api.Type {
	t.Row = bareRow(t.Row)
	t.Args = each(t.Args, bare)
	return t
}

func bareRow(r api.Row) api.Row {
	r.Labels = each(r.Labels, func(label string) string { return label })
	return r
}

func each[A, B any](l []A, become func(A) B) []B {
	var out []B
	for _, item := range l {
		out = append(out, become(item))
	}
	return out
}
