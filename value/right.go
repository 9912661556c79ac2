package value

import "brocade/api"

// Right tells whether a value may be (K1).
func Right(v api.Value) bool { return fits(v, rightAlone) }

// First tells whether it is first-order (K1).
func First(v api.Value) bool { return fits(v, firstAlone) }

// fits tells whether a value, and all within it, is as it has to be alone, and not too deep.
func fits(v api.Value, alone func(v *api.Value) bool) bool {
	_, fine := judge{alone: alone, below: map[list]int{}}.depth(&v, MaxDepth)
	return fine
}

// judge tells which values are as they have to be.
type judge struct {
	alone func(v *api.Value) bool // whether a value is so, if its kids are
	below map[list]int            // how deep the deepest one of some kids is
}

// depth is how deep a value is; false if it is deeper than most, or something in it is not as it has to be.
func (j judge) depth(v *api.Value, most int) (int, bool) {
	if most == 0 || !j.alone(v) {
		return 0, false
	}
	if len(v.Kids) == 0 {
		return 1, true
	}
	at := kids(v)
	deepest, known := j.below[at]
	if known {
		return deepest + 1, deepest < most
	}
	j.below[at] = MaxDepth // too deep for who meets it again within itself
	for i := range v.Kids {
		deep, fine := j.depth(&v.Kids[i], most-1)
		if !fine {
			return 0, false
		}
		deepest = max(deepest, deep)
	}
	j.below[at] = deepest
	return deepest + 1, true
}

// rightAlone tells whether a value is right if its kids are.
func rightAlone(v *api.Value) bool {
	if v.Kind == api.ValCon {
		return v.Name != "" && v.N == 0
	}
	return v.Name == "" && len(v.Kids) == 0 && numberRight(v)
}

// numberRight tells whether a value that is no constructor's has a number that its kind may have.
func numberRight(v *api.Value) bool {
	switch v.Kind {
	case api.ValInt:
		return true
	case api.ValBool:
		return v.N == 0 || v.N == 1
	case api.ValRef:
		return v.N >= 0
	case api.ValUnit, api.ValFun:
		return v.N == 0
	}
	return false
}

// firstAlone tells whether a value is first-order if its kids are.
func firstAlone(v *api.Value) bool {
	return v.Kind != api.ValFun && v.Kind != api.ValRef && rightAlone(v)
}
