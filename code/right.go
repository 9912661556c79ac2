package code

import "brocade/api"

// right tells whether all pieces are right. Of those that stand within themselves none is: what is right is so by what
// is within it.
func (s survey) right() bool {
	for _, piece := range s.rising {
		if !rightAlone(piece) {
			return false
		}
	}
	return !s.round
}

// has is what a piece has: a Name and a Param that are not empty, any N, Arms, and how many Kids, of which the first
// ones are atoms.
type has struct {
	name, param, number, arms bool
	kids, atoms               int
}

// rightAlone tells whether a piece is right, if all that is within it is.
func rightAlone(c *api.Code) bool {
	switch c.Kind {
	case api.CodeVar:
		return only(c, has{name: true})
	case api.CodeInt:
		return only(c, has{number: true})
	case api.CodeBool:
		return only(c, has{number: true}) && (c.N == 0 || c.N == 1)
	case api.CodeUnit:
		return only(c, has{})
	case api.CodeFun:
		return only(c, has{name: true, kids: 1})
	case api.CodeApp:
		return only(c, has{kids: 2, atoms: 2})
	case api.CodeLet, api.CodeBind:
		return only(c, has{name: true, kids: 2})
	case api.CodeRec:
		return only(c, has{name: true, param: true, kids: 2})
	case api.CodeIf:
		return only(c, has{kids: 3, atoms: 1})
	case api.CodeOp:
		count, known := operands(c.Name)
		return known && only(c, has{name: true, kids: count, atoms: count})
	case api.CodeCon:
		return only(c, has{name: true, kids: len(c.Kids), atoms: len(c.Kids)})
	case api.CodeMatch:
		return only(c, has{arms: true, kids: 1, atoms: 1}) && waysRight(c.Arms...)
	case api.CodeYield:
		return only(c, has{name: true, kids: 1, atoms: 1})
	case api.CodePrompt:
		return only(c, has{name: true, arms: true, kids: 1}) && clausesRight(c.Arms...)
	}
	return false
}

// only tells whether a piece has just what it is to have.
func only(c *api.Code, h has) bool {
	return (c.Name != "") == h.name && (c.Param != "") == h.param && (h.number || c.N == 0) &&
		(len(c.Arms) > 0) == h.arms && len(c.Kids) == h.kids && atoms(c.Kids[:h.atoms]...)
}

// atoms tells whether all of some pieces are atoms, if they are right.
func atoms(pieces ...api.Code) bool {
	for n := range pieces {
		switch pieces[n].Kind {
		case api.CodeVar, api.CodeInt, api.CodeBool, api.CodeUnit, api.CodeFun:
		default:
			return false
		}
	}
	return true
}

// operands is how many Kids a CodeOp of some Name has, if there is one.
func operands(name string) (int, bool) {
	switch name {
	case "+", "-", "*", "/", "<", "=", ":=":
		return 2, true
	case "print", "ref", "!":
		return 1, true
	case "read":
		return 0, true
	}
	return 0, false
}

// waysRight tells whether arms can be a match's.
func waysRight(arms ...api.CodeArm) bool {
	for n := range arms {
		if arms[n].Name == "" || arms[n].Tail || !named(arms[n].Vars...) {
			return false
		}
	}
	return true
}

// clausesRight tells whether arms can be a prompt's: the first one is what it returns, each other one is an operation's.
func clausesRight(arms ...api.CodeArm) bool {
	for n := range arms {
		arm := &arms[n]
		fine, vars := arm.Name != "", 2
		if n == 0 {
			fine, vars = arm.Name == "return" && !arm.Tail, 1
		} else if arm.Tail {
			vars = 1
		}
		if !fine || len(arm.Vars) != vars || !named(arm.Vars...) {
			return false
		}
	}
	return true
}

// named tells whether none of some names is empty.
func named(names ...string) bool {
	for _, name := range names {
		if name == "" {
			return false
		}
	}
	return true
}
