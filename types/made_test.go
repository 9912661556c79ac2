package types_test

import (
	"reflect"
	"testing"

	"brocade/api"
	"brocade/types"
)

// dice are numbers that are the same in each run.
type dice uint32

func (d *dice) under(n int) int {
	*d = *d*1664525 + 1013904223
	return int(uint32(*d)>>8) % n
}

func (d *dice) pick(texts ...string) string { return texts[d.under(len(texts))] }

func (d *dice) row() api.Row {
	var r api.Row
	for range d.under(4) {
		r = types.Add(r, d.pick("D", "E", "F", "console", "E1"))
	}
	if d.under(2) == 0 {
		r.Var = 1 + d.under(12)
	}
	return r
}

// made makes up a right type that is at most so deep.
func (d *dice) made(deep int) api.Type {
	switch least := d.under(8); {
	case deep > 1 && least < 4:
		return fun(d.made(deep-1), d.row(), d.made(deep-1))
	case deep > 1 && least < 6:
		return ref(d.made(deep - 1))
	case least%2 == 0:
		return variable(1 + d.under(12))
	}
	if n := 1 + d.under(4); n != api.TypData {
		return kind(n)
	}
	return data(d.pick("D", "E", "List", "Z_9"))
}

// placesIn are all places of types in a type, the first one its own.
func placesIn(t *api.Type) []*api.Type {
	out := []*api.Type{t}
	for i := range t.Args {
		out = append(out, placesIn(&t.Args[i])...)
	}
	return out
}

// spoil changes one thing in a type, which may be right then or not.
func (d *dice) spoil(t api.Type) api.Type {
	t = bare(t)
	places := placesIn(&t)
	at := places[d.under(len(places))]
	switch d.under(8) {
	case 0:
		at.Kind = d.under(10) - 1
	case 1:
		at.Name = d.pick("", "D", "x")
	case 2:
		at.Var = d.under(4) - 1
	case 3:
		at.Row.Var = d.under(4) - 1
	case 4:
		at.Row.Labels = append([]string{d.pick("", "D", "E", "console")}, at.Row.Labels...)
	case 5:
		at.Args = at.Args[:len(at.Args)/2]
	case 6:
		at.Args = append(at.Args, d.made(2))
	default:
		*at = d.made(3)
	}
	return t
}

// TestMade has made up types, and what becomes of them when one thing in them is another one.
func TestMade(t *testing.T) {
	luck := dice(11)
	fine := 0
	for range 6000 {
		x := luck.made(1 + luck.under(7))
		text := types.Text(x)
		wantText(t, x, text)
		wantVars(t, x, slowVars(text, "'"), slowVars(text, `\|`))
		for range 5 {
			spoilt := luck.spoil(x)
			if got, want := types.Same(x, spoilt), reflect.DeepEqual(bare(x), bare(spoilt)); got != want || types.Same(spoilt, x) != want {
				t.Fatalf("%+v and %+v: %v", x, spoilt, got)
			}
			if got, want := types.Right(spoilt), slowRight(spoilt); got != want {
				t.Fatalf("%+v: %v", spoilt, got)
			}
			if types.Depth(spoilt) != slowDepth(spoilt) {
				t.Fatalf("%+v: %d", spoilt, types.Depth(spoilt))
			}
			if types.Right(spoilt) {
				fine++
				if types.Same(x, spoilt) != (text == types.Text(spoilt)) {
					t.Fatalf("%s and %s", text, types.Text(spoilt))
				}
			}
		}
	}
	if fine < 3000 || fine > 27000 {
		t.Errorf("%d of 30000 were right", fine)
	}
}

// TestMadeDeep has made up types that are as deep as they may be.
func TestMadeDeep(t *testing.T) {
	luck := dice(12)
	for range 100 {
		x := luck.made(3)
		for types.Depth(x) < api.MaxDeep {
			switch luck.under(3) {
			case 0:
				x = ref(x)
			case 1:
				x = fun(x, luck.row(), luck.made(2))
			default:
				x = fun(luck.made(2), luck.row(), x)
			}
		}
		text := types.Text(x)
		wantText(t, x, text)
		wantVars(t, x, slowVars(text, "'"), slowVars(text, `\|`))
		for _, way := range ways() {
			if deeper := way(x); types.Right(deeper) || types.Depth(deeper) != 201 || types.Same(x, deeper) || types.Text(deeper) != "" {
				t.Fatalf("deeper than %s", text)
			}
		}
	}
}

// TestOwners: what is handed in stays, and what is answered is nobody else's (R1); the same calls have the same answers (R4).
func TestOwners(t *testing.T) {
	luck := dice(13)
	for range 2000 {
		x, y := luck.made(5), luck.made(5)
		keptX, keptY := bare(x), bare(y)
		kinds, rows := types.Vars(x)
		first, firstRows := append([]int{}, kinds...), append([]int{}, rows...)
		text := types.Text(x)
		types.Right(x)
		types.Same(x, y)
		types.Depth(x)
		for i := range kinds {
			kinds[i] = -7
		}
		kinds = append(kinds, -7)
		for i, n := range firstRows {
			if rows[i] != n {
				t.Fatalf("%s: the one list is written over with the other one", text)
			}
		}
		wantVars(t, x, first, firstRows)
		if !reflect.DeepEqual(bare(x), keptX) || !reflect.DeepEqual(bare(y), keptY) || types.Text(x) != text {
			t.Fatalf("%s was changed", text)
		}
	}
}

// TestRowOwners: rows that are handed in stay, with what is behind their labels; those that are answered have labels of their own.
func TestRowOwners(t *testing.T) {
	luck := dice(14)
	for range 3000 {
		kept := luck.row()
		room := append(append([]string{}, kept.Labels...), "behind", "behind")
		handed := api.Row{Labels: room[:len(kept.Labels)], Var: kept.Var}
		label := luck.pick("A", "D", "E", "F", "console", "zz")
		less, _ := types.Less(handed, label)
		for _, answer := range []api.Row{types.Sorted(handed), types.Add(handed, label), less} {
			wantRow(t, "what was handed in", handed, kept)
			full := answer.Labels[:cap(answer.Labels)]
			for i := range full {
				full[i] = "over"
			}
			wantRow(t, "what was handed in", handed, kept)
			if room[len(kept.Labels)] != "behind" || room[len(kept.Labels)+1] != "behind" {
				t.Fatalf("%v: what is behind it was changed", kept)
			}
		}
	}
	unsorted := row(1, "F", "E", "D")
	types.Sorted(unsorted)
	wantRow(t, "what was handed in", unsorted, row(1, "F", "E", "D"))
}
