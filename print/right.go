package print

import (
	"brocade/api"
	"brocade/lex"
	"brocade/parse"
)

// small tells whether some texts are small names, each of them.
func small(texts ...string) bool { return named(api.TokSmall, texts...) }

// large tells whether some texts are large names, each of them.
func large(texts ...string) bool { return named(api.TokLarge, texts...) }

// named tells whether each of some texts is one word of a kind, and nothing beside it.
func named(kind int, texts ...string) bool {
	for _, text := range texts {
		l, _, _ := lex.Lex([]byte(text))
		if len(l) != 1 || l[0].Kind != kind || l[0].Text != text {
			return false
		}
	}
	return true
}

func effectsRight(effects ...api.Effect) bool {
	for _, effect := range effects {
		if !large(effect.Name) {
			return false
		}
		for _, op := range effect.Ops {
			if !small(op.Name) || !typesRight(op.Arg, op.Res) {
				return false
			}
		}
	}
	return true
}

func datasRight(datas ...api.Data) bool {
	for _, data := range datas {
		if !large(data.Name) {
			return false
		}
		for _, con := range data.Cons {
			if !large(con.Name) || !typesRight(con.Fields...) {
				return false
			}
		}
	}
	return true
}

// typesRight tells whether some types are such as declarations have.
func typesRight(types ...api.Type) bool {
	for _, t := range types {
		if t.Var != 0 || len(t.Args) != 0 || len(t.Row.Labels) != 0 || t.Row.Var != 0 {
			return false
		}
		switch t.Kind {
		case api.TypInt, api.TypBool, api.TypUnit:
			if t.Name != "" {
				return false
			}
		case api.TypData:
			if !large(t.Name) {
				return false
			}
		default:
			return false
		}
	}
	return true
}

// termRight tells whether a term can be written, with all that is in it.
func termRight(t *api.Term) bool {
	return parse.Depth(*t) <= api.MaxDeep && seen{}.right(t)
}

// seen is the terms that were looked at, so that terms that have lists together are not gone through again and again.
type seen map[*api.Term]struct{}

func (s seen) right(t *api.Term) bool {
	if _, known := s[t]; known {
		return true // had it been wrong, nobody would ask any more
	}
	s[t] = struct{}{}
	if !aloneRight(t) {
		return false
	}
	for i := range t.Kids {
		if !s.right(&t.Kids[i]) {
			return false
		}
	}
	for i := range t.Arms {
		if !s.right(&t.Arms[i].Body) {
			return false
		}
	}
	return true
}

// aloneRight tells whether a term can be written if the terms right within it can.
func aloneRight(t *api.Term) bool {
	switch t.Kind {
	case api.TermVar:
		return small(t.Name) && only(t, parts{name: true})
	case api.TermInt:
		return t.N >= 0 && only(t, parts{number: true})
	case api.TermBool:
		return (t.N == 0 || t.N == 1) && only(t, parts{number: true})
	case api.TermUnit:
		return only(t, parts{})
	case api.TermFun:
		return small(t.Name) && only(t, parts{name: true, kids: 1})
	case api.TermApp:
		return only(t, parts{kids: 2})
	case api.TermLet:
		return small(t.Name) && only(t, parts{name: true, kids: 2})
	case api.TermRec:
		return small(t.Name, t.Param) && only(t, parts{name: true, param: true, kids: 2})
	case api.TermIf:
		return only(t, parts{kids: 3})
	case api.TermOp:
		kids, known := operands(t.Name)
		return known && only(t, parts{name: true, kids: kids})
	case api.TermCon:
		return large(t.Name) && only(t, parts{name: true, kids: len(t.Kids)})
	case api.TermMatch:
		return waysRight(t.Arms...) && only(t, parts{kids: 1, arms: true})
	case api.TermDo:
		return small(t.Name) && only(t, parts{name: true, kids: 1})
	case api.TermHandle:
		return large(t.Name) && clausesRight(t.Arms...) && only(t, parts{name: true, kids: 1, arms: true})
	}
	return false
}

// parts is what a term may have beside At, Type, Row and Own, and how many Kids it must have.
type parts struct {
	name, param, number, arms bool
	kids                      int
}

// only tells whether a term has no other parts than some, and as many Kids.
func only(t *api.Term, p parts) bool {
	return (p.name || t.Name == "") && (p.param || t.Param == "") && (p.number || t.N == 0) &&
		(p.arms || len(t.Arms) == 0) && len(t.Kids) == p.kids
}

// operands tells how many Kids a TermOp of a Name has, if there is one.
func operands(name string) (int, bool) {
	switch name {
	case "+", "-", "*", "/", "<", "=", ":=":
		return 2, true
	case "print", "ref", "!":
		return 1, true
	case "read":
		return 0, true
	}
	return 0, false
}

func waysRight(arms ...api.Arm) bool {
	for _, arm := range arms {
		if !large(arm.Name) || !small(arm.Vars...) {
			return false
		}
	}
	return true
}

// clausesRight tells whether arms can be a handler's: the first is what it returns, each other one is an operation's.
func clausesRight(arms ...api.Arm) bool {
	for i, arm := range arms {
		name, vars := small(arm.Name), 2
		if i == 0 {
			name, vars = arm.Name == "return", 1
		}
		if !name || len(arm.Vars) != vars || !small(arm.Vars...) {
			return false
		}
	}
	return len(arms) > 0
}
