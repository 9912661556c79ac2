package scope

import "brocade/api"

// alone tells whether a term is right by what is declared, whatever is bound there, and whatever stands within it.
func (d *declared) alone(t *api.Term) bool {
	switch t.Kind {
	case api.TermVar, api.TermInt, api.TermBool, api.TermUnit:
		return has(t, 0, 0)
	case api.TermFun:
		return has(t, 1, 0)
	case api.TermApp, api.TermLet, api.TermRec:
		return has(t, 2, 0)
	case api.TermIf:
		return has(t, 3, 0)
	case api.TermOp:
		kids, known := Prims(t.Name)
		return known && has(t, kids, 0)
	case api.TermCon:
		con, known := d.cons[t.Name]
		return known && has(t, len(con.Fields), 0)
	case api.TermMatch:
		return has(t, 1, len(t.Arms)) && d.waysRight(t.Arms)
	case api.TermDo:
		return d.ops[t.Name] != nil && has(t, 1, 0)
	case api.TermHandle:
		effect, known := d.effects[t.Name]
		return known && has(t, 1, 1+len(effect.Ops)) && clausesRight(t.Arms, effect.Ops)
	}
	return false
}

// has tells whether a term has so many kids and arms.
func has(t *api.Term, kids, arms int) bool { return len(t.Kids) == kids && len(t.Arms) == arms }

// waysRight tells whether arms are a match's: just the constructors of one data.
func (d *declared) waysRight(arms []api.Arm) bool {
	if len(arms) == 0 {
		return false
	}
	con, known := d.cons[arms[0].Name]
	if !known || len(arms) != len(con.data.Cons) {
		return false
	}
	for i, con := range con.data.Cons {
		if arms[i].Name != con.Name || len(arms[i].Vars) != len(con.Fields) || twice(arms[i].Vars...) {
			return false
		}
	}
	return true
}

// clausesRight tells whether arms are a handler's: return, and just its effect's operations; there are as many as that.
func clausesRight(arms []api.Arm, ops []api.OpSig) bool {
	if arms[0].Name != "return" || len(arms[0].Vars) != 1 {
		return false
	}
	for i, op := range ops {
		names := arms[1+i].Vars
		if arms[1+i].Name != op.Name || len(names) != 2 || names[0] == names[1] {
			return false
		}
	}
	return true
}

// twice tells whether one of some names stands among them twice; the one that is never bound may.
func twice(names ...string) bool {
	met := map[string]struct{}{}
	for _, name := range names {
		if _, again := met[name]; again && name != nobody {
			return true
		}
		met[name] = struct{}{}
	}
	return false
}
