package types

import (
	"slices"

	"brocade/api"
)

// Sorted is a row with its labels in order (D1).
func Sorted(r api.Row) api.Row {
	out := copied(r)
	slices.Sort(out.Labels)
	return out
}

// Add is a row with a label once more (D4).
func Add(r api.Row, label string) api.Row {
	out := copied(r)
	out.Labels = append(out.Labels, label)
	slices.Sort(out.Labels)
	return out
}

// Less is a row with a label once less, and whether the label was there (D4).
func Less(r api.Row, label string) (api.Row, bool) {
	out := copied(r)
	at := slices.Index(out.Labels, label)
	if at < 0 {
		return out, false
	}
	out.Labels = slices.Delete(out.Labels, at, at+1)
	return out, true
}

// Calm tells whether a row is closed, and has no label but console (D4).
func Calm(r api.Row) bool {
	return r.Var == 0 && !slices.ContainsFunc(r.Labels, func(label string) bool { return label != api.Console })
}

// copied is a row with labels of its own, which may be written over.
func copied(r api.Row) api.Row {
	labels := make([]string, len(r.Labels))
	copy(labels, r.Labels)
	return api.Row{Labels: labels, Var: r.Var}
}
