package print_test

import (
	"fmt"
	"math"
	"slices"
	"strconv"
	"strings"
	"testing"

	"brocade/api"
)

var (
	largeNames = []string{"A", "Z", "X_1", "Int", "FUN", "A" + strings.Repeat("x", 59)}
	smallNames = []string{"a", "z", "_", "_A", "x1", "fun1", "let_", "reads", "console", "a" + strings.Repeat("X", 59)}
	noNames    = []string{"", " ", "1", "1x", "x!", "X!", " x", "x ", "X ", "\nX", "x\n", "x#", "X#note", "#x", "x y", "X Y", "x-y", "x.y", "é", "É", "x\x00", "\xff", "$", "->", "(", "()", "!", "!x",
		"a" + strings.Repeat("x", 60), "A" + strings.Repeat("x", 60), strings.Repeat("x", api.MaxSource+1), "x" + strings.Repeat(" ", api.MaxSource), "9223372036854775808"}
	keywords  = strings.Fields("fun let in rec if then else match handle return effect data print read ref true false int bool unit")
	operators = strings.Fields("+ - * / < = :=")
)

// spot is a place of a name in a program.
type spot struct {
	what  string
	large bool
	put   func(p *api.Program, name string)
}

// whole is a program with all that there is; whoever asks gets a new one.
func whole() api.Program {
	body := samples()
	return api.Program{
		Effects: []api.Effect{{Name: "E"}, {Name: "F", Ops: []api.OpSig{{Name: "f", Arg: api.Type{Kind: api.TypInt}, Res: api.Type{Kind: api.TypUnit}}, {Name: "g", Arg: api.Type{Kind: api.TypData, Name: "D"}, Res: api.Type{Kind: api.TypData, Name: "E"}}}}},
		Datas:   []api.Data{{Name: "D"}, {Name: "E", Cons: []api.ConSig{{Name: "A"}, {Name: "B", Fields: []api.Type{{Kind: api.TypBool}, {Kind: api.TypData, Name: "D"}}}}}},
		Body:    api.Term{Kind: api.TermCon, Name: "C", Kids: body},
	}
}

// inBody is the last of the samples of a kind.
func inBody(p *api.Program, kind int) *api.Term {
	for i := range slices.Backward(p.Body.Kids) {
		if p.Body.Kids[i].Kind == kind {
			return &p.Body.Kids[i]
		}
	}
	panic("no sample")
}

func spots() []spot {
	named := func(what string, kind int, large bool) spot {
		return spot{what, large, func(p *api.Program, name string) { inBody(p, kind).Name = name }}
	}
	arm := func(what string, kind, place int, large bool) spot {
		return spot{what, large, func(p *api.Program, name string) { inBody(p, kind).Arms[place].Name = name }}
	}
	bound := func(what string, kind, place, which int) spot {
		return spot{what, false, func(p *api.Program, name string) { inBody(p, kind).Arms[place].Vars[which] = name }}
	}
	return []spot{
		{"effect", true, func(p *api.Program, name string) { p.Effects[1].Name = name }},
		{"operation", false, func(p *api.Program, name string) { p.Effects[1].Ops[1].Name = name }},
		{"argument", true, func(p *api.Program, name string) { p.Effects[1].Ops[1].Arg.Name = name }},
		{"result", true, func(p *api.Program, name string) { p.Effects[1].Ops[1].Res.Name = name }},
		{"data", true, func(p *api.Program, name string) { p.Datas[1].Name = name }},
		{"constructor", true, func(p *api.Program, name string) { p.Datas[1].Cons[1].Name = name }},
		{"field", true, func(p *api.Program, name string) { p.Datas[1].Cons[1].Fields[1].Name = name }},
		named("var", api.TermVar, false), named("fun", api.TermFun, false), named("let", api.TermLet, false), named("rec", api.TermRec, false),
		{"param", false, func(p *api.Program, name string) { inBody(p, api.TermRec).Param = name }},
		named("con", api.TermCon, true), named("do", api.TermDo, false), named("handle", api.TermHandle, true),
		arm("way", api.TermMatch, 0, true), arm("second way", api.TermMatch, 1, true), arm("clause", api.TermHandle, 1, false),
		bound("way's", api.TermMatch, 1, 0), bound("way's second", api.TermMatch, 1, 1), bound("return's", api.TermHandle, 0, 0), bound("clause's", api.TermHandle, 1, 0), bound("clause's second", api.TermHandle, 1, 1),
	}
}

// TestNames puts names of all sorts into each place of a name.
func TestNames(t *testing.T) {
	for _, s := range spots() {
		fine, wrong := smallNames, slices.Concat(noNames, keywords, operators, largeNames)
		if s.large {
			fine, wrong = largeNames, slices.Concat(noNames, keywords, operators, smallNames)
		}
		for _, name := range fine {
			p := whole()
			s.put(&p, name)
			wantText(t, p, slowProgram(p))
		}
		for _, name := range wrong {
			p := whole()
			s.put(&p, name)
			wantWrong(t, fmt.Sprintf("%s of the name %.80q", s.what, name), p)
		}
	}
}

// slowParts is what terms of a kind have: the sorts of Name and Param, those of N, how many Kids, and which Arms.
func slowParts(kind int) string {
	switch kind {
	case api.TermVar:
		return "small none 0 0 none"
	case api.TermInt:
		return "none none 0,1,2,max 0 none"
	case api.TermBool:
		return "none none 0,1 0 none"
	case api.TermUnit:
		return "none none 0 0 none"
	case api.TermFun, api.TermDo:
		return "small none 0 1 none"
	case api.TermApp:
		return "none none 0 2 none"
	case api.TermLet:
		return "small none 0 2 none"
	case api.TermRec:
		return "small small 0 2 none"
	case api.TermIf:
		return "none none 0 3 none"
	case api.TermCon:
		return "large none 0 0,1,2,3,4 none"
	case api.TermMatch:
		return "none none 0 1 none,ways"
	case api.TermHandle:
		return "large none 0 1 clauses"
	}
	return ""
}

func slowOperands(name string) string {
	switch {
	case slices.Contains(operators, name):
		return name + " none 0 2 none"
	case slices.Contains([]string{"print", "ref", "!"}, name):
		return name + " none 0 1 none"
	case name == "read":
		return name + " none 0 0 none"
	}
	return ""
}

// sorted is something with the sort that it is of, by which slowParts speaks of it.
type sorted[A any] struct {
	sort string
	item A
}

// armsOf are arms, each told by its Name and its Vars with a space ahead of each.
func armsOf(texts ...string) []api.Arm {
	return each(texts, func(text string) api.Arm {
		names := strings.Split(text, " ")
		return api.Arm{Name: names[0], Vars: names[1:], Body: variable("x")}
	})
}

func sortedNames() []sorted[string] {
	l := []sorted[string]{{"none", ""}, {"small", "x"}, {"small", "_R"}, {"large", "X"}}
	for _, name := range slices.Concat(operators, keywords, []string{"!", "x!", "%", ">", "==", "+ ", "!!", "read ( )", "x y"}) {
		l = append(l, sorted[string]{name, name})
	}
	return l
}

var sortedNumbers = []sorted[int]{{"0", 0}, {"1", 1}, {"2", 2}, {"-1", -1}, {"max", math.MaxInt}, {"min", math.MinInt}}

// sortedArms are arms of a match, of a handler, and of neither.
func sortedArms() []sorted[[]api.Arm] {
	l := []sorted[[]api.Arm]{{"none", nil}, {"none", []api.Arm{}}}
	add := func(sort string, arms ...string) { l = append(l, sorted[[]api.Arm]{sort, armsOf(arms...)}) }
	for _, way := range []string{"A", "A x", "A x y z", "A x x", "Return x"} {
		add("ways", way)
		add("ways", "A", way)
		add("no", "return x", way)
		add("no", way, "return x")
		add("no", way, "f a k")
	}
	add("clauses", "return x")
	add("clauses", "return x", "f a k")
	add("clauses", "return x", "f a a", "f x y", "g a k")
	for _, first := range []string{"return", "return x y", "return X", "return ", "return fun", "return x!", "f x", "f a k", " x", "return  x", "let x"} {
		add("no", first)
		add("no", first, "f a k")
	}
	for _, next := range []string{"f", "f a", "f a k b", "return x", "return a k", "F a k", "fun a k", " a k", "f A k", "f a K", "f a in", "f! a k"} {
		add("no", "return x", next)
		add("no", "return x", "g a k", next)
		add("no", "return x", next, "g a k")
	}
	for _, way := range []string{"a", "a x", " x", "A X", "A x Y", "A x ", "A fun", "A x!", "int", "1"} {
		add("no", way)
		add("no", "B y", way)
		add("no", way, "B y")
	}
	return l
}

// TestArms gives a match and a handler arms of all sorts.
func TestArms(t *testing.T) {
	for _, arms := range sortedArms() {
		match := api.Term{Kind: api.TermMatch, Kids: []api.Term{variable("x")}, Arms: arms.item}
		handle := api.Term{Kind: api.TermHandle, Name: "E", Kids: []api.Term{variable("x")}, Arms: arms.item}
		wantTerm(t, match, arms.sort == "ways" || arms.sort == "none")
		wantTerm(t, handle, arms.sort == "clauses")
	}
}

func wantTerm(t *testing.T, term api.Term, fine bool) {
	t.Helper()
	if fine {
		wantText(t, api.Program{Body: term}, slowTerm(term))
	} else {
		wantWrongTerm(t, term, term)
	}
}

// TestParts gives terms of each kind all sorts of parts: what 2 says that they have, less than that, and more.
func TestParts(t *testing.T) {
	arms := []sorted[[]api.Arm]{{"none", nil}, {"ways", armsOf("A", "B x")}, {"clauses", armsOf("return x", "f a k")}}
	fine := 0
	for kind := -1; kind <= 20; kind++ {
		for _, name := range sortedNames() {
			form := slowParts(kind)
			if kind == api.TermOp {
				form = slowOperands(name.item)
			}
			for _, param := range []sorted[string]{{"none", ""}, {"small", "x"}, {"large", "X"}, {"fun", "fun"}} {
				for _, number := range sortedNumbers {
					for place := range 5 * len(arms) {
						kids, arm := place%5, arms[place/5]
						term := api.Term{Kind: kind, Name: name.item, Param: param.item, N: number.item, Kids: just(kids, func() api.Term { return variable("x") }), Arms: arm.item}
						has := fits(form, name.sort, param.sort, number.sort, strconv.Itoa(kids), arm.sort)
						wantTerm(t, term, has)
						if has {
							fine++
						}
					}
				}
			}
		}
	}
	if fine != 38 {
		t.Errorf("%d terms are fine", fine)
	}
}

func fits(form string, sorts ...string) bool {
	allowed := strings.Fields(form)
	if len(allowed) != len(sorts) {
		return false
	}
	for i, sort := range sorts {
		if !slices.Contains(strings.Split(allowed[i], ","), sort) {
			return false
		}
	}
	return true
}
