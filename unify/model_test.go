package unify_test

import (
	"sort"
	"testing"

	"brocade/api"
	"brocade/subst"
	"brocade/types"
	"brocade/unify"
)

// dice are numbers that are the same in each run.
type dice uint32

func (d *dice) under(n int) int {
	*d = *d*1664525 + 1013904223
	return int(uint32(*d)>>8) % n
}

func (d *dice) row() api.Row {
	var r api.Row
	for range d.under(4) {
		r = types.Add(r, []string{"D", "E", "E", "console"}[d.under(4)])
	}
	if d.under(4) > 0 {
		r.Var = 1 + d.under(6)
	}
	return r
}

// made makes up a right type that is at most so deep.
func (d *dice) made(deep int) api.Type {
	switch least := d.under(8); {
	case deep > 1 && least < 4:
		return fun(d.made(deep-1), d.row(), d.made(deep-1))
	case deep > 1 && least < 6:
		return ref(d.made(deep - 1))
	case least%4 != 0:
		return variable(1 + d.under(6))
	}
	if n := 1 + d.under(4); n != api.TypData {
		return kind(n)
	}
	return data("D")
}

// model is what a substitution has to be: all that it says, in maps alone.
type model struct {
	types map[int]api.Type
	rows  map[int]api.Row
}

func nothing() model { return model{map[int]api.Type{}, map[int]api.Row{}} }

func (m model) apply(t api.Type) api.Type {
	if said, known := m.types[t.Var]; known && t.Kind == api.TypVar {
		return said
	}
	out := api.Type{Kind: t.Kind, Name: t.Name, Var: t.Var, Row: m.applyRow(t.Row)}
	for _, arg := range t.Args {
		out.Args = append(out.Args, m.apply(arg))
	}
	return out
}

func (m model) applyRow(r api.Row) api.Row {
	said, known := m.rows[r.Var]
	if !known || r.Var == 0 {
		return r
	}
	labels := append(append([]string(nil), r.Labels...), said.Labels...)
	sort.Strings(labels)
	return api.Row{Labels: labels, Var: said.Var}
}

// then is what m says, with t put into it, and what t says of others.
func (m model) then(t model) model {
	out := nothing()
	for n, said := range t.types {
		out.types[n] = said
	}
	for n, said := range t.rows {
		out.rows[n] = said
	}
	for n, said := range m.types {
		out.types[n] = t.apply(said)
	}
	for n, said := range m.rows {
		out.rows[n] = t.applyRow(said)
	}
	return out
}

// handed is the substitution that says what the model says.
func (m model) handed() subst.Subst {
	s := subst.None()
	for n, said := range m.types {
		s = s.SetType(n, said)
	}
	for n, said := range m.rows {
		s = s.SetRow(n, said)
	}
	return s
}

// second unifies a second way: by texts, by counts of labels, and with a model; it gives up far down.
type second struct {
	model
	next int
	lost bool
}

func (w *second) be(n int, t api.Type) api.Errno {
	return w.goOn(model{map[int]api.Type{n: t}, nil})
}

func (w *second) beRow(n int, r api.Row) api.Errno {
	return w.goOn(model{nil, map[int]api.Row{n: r}})
}

func (w *second) goOn(one model) api.Errno {
	w.model = w.model.then(one)
	for _, said := range w.model.types {
		if slowPieces(said) > 1000 || slowDepth(said) > 200 {
			return api.ErrLimit
		}
	}
	return api.OK
}

func stands(n int, t api.Type) bool {
	there := t.Kind == api.TypVar && t.Var == n
	for _, arg := range t.Args {
		there = there || stands(n, arg)
	}
	return there
}

func (w *second) unify(a, b api.Type, level int) api.Errno {
	a, b = w.apply(a), w.apply(b)
	if w.lost = w.lost || level > 30 || slowPieces(a) > 3000 || slowPieces(b) > 3000; w.lost {
		return api.ErrArg
	}
	if types.Text(a) == types.Text(b) {
		return api.OK
	}
	if a.Kind != api.TypVar && b.Kind == api.TypVar {
		a, b = b, a
	}
	if a.Kind == api.TypVar {
		if stands(a.Var, b) {
			return api.ErrType
		}
		return w.be(a.Var, b)
	}
	if a.Kind != b.Kind || len(a.Args) == 0 {
		return api.ErrType
	}
	for i := range a.Args {
		if i == 1 {
			if err := w.unifyRows(a.Row, b.Row); err != api.OK {
				return err
			}
		}
		if err := w.unify(a.Args[i], b.Args[i], level+1); err != api.OK {
			return err
		}
	}
	return api.OK
}

func (w *second) unifyRows(a, b api.Row) api.Errno {
	a, b = w.applyRow(a), w.applyRow(b)
	counts := map[string]int{}
	for _, label := range a.Labels {
		counts[label]++
	}
	for _, label := range b.Labels {
		counts[label]--
	}
	var moreA, moreB []string
	for label, count := range counts {
		for ; count > 0; count-- {
			moreA = append(moreA, label)
		}
		for ; count < 0; count++ {
			moreB = append(moreB, label)
		}
	}
	sort.Strings(moreA)
	sort.Strings(moreB)
	u, v, anyA, anyB := a.Var, b.Var, len(moreA) > 0, len(moreB) > 0
	if !anyA && !anyB {
		switch {
		case u == v:
			return api.OK
		case u == 0:
			return w.beRow(v, api.Row{})
		case v == 0:
			return w.beRow(u, api.Row{})
		}
		return w.beRow(u, api.Row{Var: v})
	}
	if anyA && v == 0 || anyB && u == 0 || u == v {
		return api.ErrType
	}
	if !anyB {
		return w.beRow(v, row(u, moreA...))
	}
	if !anyA {
		return w.beRow(u, row(v, moreB...))
	}
	w.next++
	if err := w.beRow(u, row(w.next-1, moreB...)); err != api.OK {
		return err
	}
	return w.beRow(v, row(w.next-1, moreA...))
}

// wantSecond holds an answer against that of the second way, and answers it; the error is ErrArg if that gave up.
func wantSecond(t *testing.T, m model, a, b api.Type, next int) (subst.Subst, int, api.Errno) {
	t.Helper()
	s := m.handed()
	got, after, err := unify.Types(s, a, b, next)
	w := second{model: m, next: next}
	want := w.unify(a, b, 0)
	wanted := w.model.handed()
	if want != api.OK {
		wanted, w.next = s, next
	}
	if !w.lost && (err != want || after != w.next || told(got) != told(wanted)) {
		t.Fatalf("%s: %s and %s: %v, %d, %s; not %v, %d, %s", told(s), types.Text(a), types.Text(b), err, after, told(got), want, w.next, told(wanted))
	}
	if told(s) != told(m.handed()) {
		t.Fatalf("%s became %s", told(m.handed()), told(s))
	}
	if w.lost {
		err = api.ErrArg
	}
	return got, after, err
}

// TestSecondOn goes on from pair to pair of made up types, as long as there is no error.
func TestSecondOn(t *testing.T) {
	luck, errs := dice(21), map[api.Errno]int{}
	for range 4000 {
		m, next := nothing(), 10
		for range 6 {
			a, b := luck.made(1+luck.under(4)), luck.made(1+luck.under(4))
			got, after, err := wantSecond(t, m, a, b, next)
			errs[err]++
			if err != api.OK {
				break
			}
			if !types.Same(got.Apply(a), got.Apply(b)) {
				t.Fatalf("%s and %s are unlike in %s", types.Text(a), types.Text(b), told(got))
			}
			m, next = modelOf(got), after
		}
	}
	if errs[api.OK] < 3000 || errs[api.ErrType] < 2000 {
		t.Errorf("%v", errs)
	}
}

// modelOf is what a substitution says, in maps.
func modelOf(s subst.Subst) model {
	m := nothing()
	kinds, rows := s.Vars()
	for _, n := range kinds {
		m.types[n], _ = s.Type(n)
	}
	for _, n := range rows {
		m.rows[n], _ = s.Row(n)
	}
	return m
}

// TestSecondAny starts from any substitution, even such as say something of variables that stand in what they say:
// all calls end, and what the second way has an answer to is that.
func TestSecondAny(t *testing.T) {
	luck, errs := dice(22), map[api.Errno]int{}
	for range 15000 {
		m := nothing()
		for range luck.under(6) {
			m.types[1+luck.under(6)] = luck.made(1 + luck.under(3))
			m.rows[1+luck.under(6)] = luck.row()
		}
		_, _, err := wantSecond(t, m, luck.made(1+luck.under(4)), luck.made(1+luck.under(4)), 5+luck.under(10))
		errs[err]++
	}
	if errs[api.OK] < 1500 || errs[api.ErrType] < 1500 || errs[api.ErrArg] > 150 {
		t.Errorf("%v", errs)
	}
}

// TestSecondGrown has types that grow and grow, till one that is said is large.
func TestSecondGrown(t *testing.T) {
	luck, errs := dice(23), map[api.Errno]int{}
	for range 120 {
		m, next := nothing(), 40
		for n := 1; ; n++ {
			x := fun(variable(n+1-luck.under(20)/19), luck.row(), variable(n+1))
			if luck.under(3) == 0 {
				x = fun(variable(n+1), luck.row(), ref(variable(n+1)))
			}
			got, after, err := wantSecond(t, m, variable(n), x, next)
			errs[err]++
			if err != api.OK {
				break
			}
			m, next = modelOf(got), after
		}
	}
	if errs[api.ErrLimit] < 20 || errs[api.ErrType] < 20 || errs[api.ErrArg] > 0 {
		t.Errorf("%v", errs)
	}
}
