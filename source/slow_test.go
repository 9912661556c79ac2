package source_test

import (
	"maps"
	"slices"

	"brocade/api"
)

// slowValue is a value of the second way: that of a function has what it is called with and a body, or frames.
type slowValue struct {
	kind, n      int
	name         string
	kids         []slowValue
	own, param   string
	body         api.Term
	env          slowEnv
	isResumption bool
	frames       []slowFrame
}

type slowEnv map[string]slowValue

func (e slowEnv) with(name string, v slowValue) slowEnv {
	out := slowEnv{}
	maps.Copy(out, e)
	out[name] = v
	return out
}

// slowFrame is a frame of the second way; row is the line of the chapter's second table that it is of.
type slowFrame struct {
	row   string
	name  string
	terms []api.Term
	arms  []api.Arm
	have  []slowValue
	kids  int
	env   slowEnv
}

// slowMachine follows the chapter's tables line by line: all of it are plain lists, the lowest frame first, and
// whatever becomes another one is copied.
type slowMachine struct {
	atTerm  bool
	term    api.Term
	env     slowEnv
	value   slowValue
	frames  []slowFrame
	cells   []slowValue
	input   []int
	trace   []int
	outcome int
	steps   int
	konts   int
}

func slowStart(p api.Program, input []int) *slowMachine {
	return &slowMachine{atTerm: true, term: p.Body, env: slowEnv{}, input: input}
}

func (m *slowMachine) goOn(t api.Term, env slowEnv) { m.atTerm, m.term, m.env = true, t, env }

func (m *slowMachine) has(v slowValue) { m.atTerm, m.value = false, v }

func (m *slowMachine) push(f slowFrame) { m.frames = append(slices.Clone(m.frames), f) }

func (m *slowMachine) step() bool {
	if m.outcome != api.OutMore {
		return false
	}
	if m.atTerm {
		m.termStep(m.term, m.env)
	} else {
		top := m.frames[len(m.frames)-1]
		m.frames = slices.Clone(m.frames[:len(m.frames)-1])
		m.valueStep(m.value, top)
	}
	m.steps++
	if m.outcome == api.OutMore && !m.atTerm && len(m.frames) == 0 {
		m.outcome = api.OutValue
	}
	return true
}

func (m *slowMachine) termStep(t api.Term, env slowEnv) {
	least := map[int]int{api.TermVar: 0, api.TermInt: 0, api.TermBool: 0, api.TermUnit: 0, api.TermFun: 1, api.TermApp: 2, api.TermLet: 2, api.TermRec: 2, api.TermIf: 3, api.TermOp: 0, api.TermCon: 0, api.TermMatch: 1, api.TermDo: 1, api.TermHandle: 1}
	needs, known := least[t.Kind]
	if !known || len(t.Kids) < needs || t.Kind == api.TermHandle && (len(t.Arms) == 0 || len(t.Arms[0].Vars) == 0) {
		m.outcome = api.OutStuck
		return
	}
	switch t.Kind {
	case api.TermVar:
		v, told := env[t.Name]
		if !told {
			m.outcome = api.OutStuck
			return
		}
		m.has(v)
	case api.TermInt:
		m.has(slowValue{kind: api.ValInt, n: t.N})
	case api.TermBool:
		m.has(slowTruth(t.N%2 != 0))
	case api.TermUnit:
		m.has(slowValue{kind: api.ValUnit})
	case api.TermFun:
		m.has(slowValue{kind: api.ValFun, param: t.Name, body: t.Kids[0], env: env})
	case api.TermApp:
		m.push(slowFrame{row: "argument", terms: t.Kids[1:2], env: env})
		m.goOn(t.Kids[0], env)
	case api.TermLet:
		m.push(slowFrame{row: "let", name: t.Name, terms: t.Kids[1:2], env: env})
		m.goOn(t.Kids[0], env)
	case api.TermRec:
		m.goOn(t.Kids[1], env.with(t.Name, slowValue{kind: api.ValFun, own: t.Name, param: t.Param, body: t.Kids[0], env: env}))
	case api.TermIf:
		m.push(slowFrame{row: "if", terms: t.Kids[1:3], env: env})
		m.goOn(t.Kids[0], env)
	case api.TermOp:
		m.opStep(t, env)
	case api.TermCon:
		m.conStep(t, env)
	case api.TermMatch:
		m.push(slowFrame{row: "match", arms: t.Arms, env: env})
		m.goOn(t.Kids[0], env)
	case api.TermDo:
		m.push(slowFrame{row: "do", name: t.Name})
		m.goOn(t.Kids[0], env)
	case api.TermHandle:
		m.push(slowFrame{row: "handler", arms: t.Arms, env: env})
		m.goOn(t.Kids[0], env)
	}
}

func slowTruth(holds bool) slowValue {
	if holds {
		return slowValue{kind: api.ValBool, n: 1}
	}
	return slowValue{kind: api.ValBool}
}

func (m *slowMachine) opStep(t api.Term, env slowEnv) {
	takes := map[string]int{"read": 0, "print": 1, "ref": 1, "!": 1, "+": 2, "-": 2, "*": 2, "/": 2, "<": 2, "=": 2, ":=": 2}
	count, known := takes[t.Name]
	switch {
	case !known || len(t.Kids) != count:
		m.outcome = api.OutStuck
	case count > 0:
		m.push(slowFrame{row: "op", name: t.Name, terms: t.Kids[1:], kids: count, env: env})
		m.goOn(t.Kids[0], env)
	case len(m.input) == 0:
		m.outcome = api.OutInput
	default:
		m.has(slowValue{kind: api.ValInt, n: m.input[0]})
		m.input = slices.Clone(m.input[1:])
	}
}

func (m *slowMachine) conStep(t api.Term, env slowEnv) {
	if len(t.Kids) == 0 {
		m.has(slowValue{kind: api.ValCon, name: t.Name})
		return
	}
	m.push(slowFrame{row: "con", name: t.Name, terms: t.Kids[1:], kids: len(t.Kids), env: env})
	m.goOn(t.Kids[0], env)
}

func (m *slowMachine) valueStep(v slowValue, f slowFrame) {
	switch {
	case f.row == "argument":
		m.push(slowFrame{row: "function", have: []slowValue{v}})
		m.goOn(f.terms[0], f.env)
	case f.row == "function":
		m.call(f.have[0], v)
	case f.row == "let":
		m.goOn(f.terms[0], f.env.with(f.name, v))
	case f.row == "if" && v.kind == api.ValBool && v.n == 1:
		m.goOn(f.terms[0], f.env)
	case f.row == "if" && v.kind == api.ValBool:
		m.goOn(f.terms[1], f.env)
	case f.row == "op" || f.row == "con":
		f.have = append(slices.Clone(f.have), v)
		if len(f.have) < f.kids {
			next := f.terms[0]
			f.terms = f.terms[1:]
			m.push(f)
			m.goOn(next, f.env)
		} else if f.row == "con" {
			m.has(slowValue{kind: api.ValCon, name: f.name, kids: f.have})
		} else {
			m.made(f.name, append(f.have, slowValue{}))
		}
	case f.row == "match" && v.kind == api.ValCon:
		m.match(v, f)
	case f.row == "do":
		m.ask(f.name, v)
	case f.row == "handler":
		m.goOn(f.arms[0].Body, f.env.with(f.arms[0].Vars[0], v))
	default:
		m.outcome = api.OutStuck
	}
}

func (m *slowMachine) call(f, v slowValue) {
	switch {
	case f.kind != api.ValFun:
		m.outcome = api.OutStuck
	case f.isResumption:
		m.frames = slices.Concat(m.frames, f.frames)
		m.has(v)
	case f.own != "":
		m.goOn(f.body, f.env.with(f.own, f).with(f.param, v))
	default:
		m.goOn(f.body, f.env.with(f.param, v))
	}
}

// made goes on with what an operator makes of one or two values; of one the second is nothing.
func (m *slowMachine) made(name string, of []slowValue) {
	a, b := of[0], of[1]
	whole := a.kind == api.ValInt && b.kind == api.ValInt
	switch {
	case name == "print" && a.kind == api.ValInt:
		m.trace = append(slices.Clone(m.trace), a.n)
		m.has(slowValue{kind: api.ValUnit})
	case name == "ref":
		m.cells = append(slices.Clone(m.cells), a)
		m.has(slowValue{kind: api.ValRef, n: len(m.cells) - 1})
	case name == "!" && a.kind == api.ValRef:
		m.has(m.cells[a.n])
	case name == ":=" && a.kind == api.ValRef:
		m.cells = slices.Clone(m.cells)
		m.cells[a.n] = b
		m.has(slowValue{kind: api.ValUnit})
	case name == "+" && whole:
		m.has(slowValue{kind: api.ValInt, n: a.n + b.n})
	case name == "-" && whole:
		m.has(slowValue{kind: api.ValInt, n: a.n - b.n})
	case name == "*" && whole:
		m.has(slowValue{kind: api.ValInt, n: a.n * b.n})
	case name == "/" && whole && b.n == 0:
		m.outcome = api.OutZero
	case name == "/" && whole:
		m.has(slowValue{kind: api.ValInt, n: a.n / b.n})
	case name == "<" && whole:
		m.has(slowTruth(a.n < b.n))
	case name == "=" && whole:
		m.has(slowTruth(a.n == b.n))
	default:
		m.outcome = api.OutStuck
	}
}

func (m *slowMachine) match(v slowValue, f slowFrame) {
	n := slices.IndexFunc(f.arms, func(a api.Arm) bool { return a.Name == v.name && len(a.Vars) == len(v.kids) })
	if n < 0 {
		m.outcome = api.OutStuck
		return
	}
	env := f.env
	for i, name := range f.arms[n].Vars {
		env = env.with(name, v.kids[i])
	}
	m.goOn(f.arms[n].Body, env)
}

func (m *slowMachine) ask(op string, v slowValue) {
	for at := len(m.frames) - 1; at >= 0; at-- {
		f := m.frames[at]
		if f.row != "handler" {
			continue
		}
		for _, arm := range f.arms[1:] {
			if arm.Name == op && len(arm.Vars) == 2 {
				k := slowValue{kind: api.ValFun, isResumption: true, frames: slices.Clone(m.frames[at:])}
				m.frames = slices.Clone(m.frames[:at])
				m.konts++
				m.goOn(arm.Body, f.env.with(arm.Vars[0], v).with(arm.Vars[1], k))
				return
			}
		}
	}
	m.outcome = api.OutStuck
}

// slowTold is a value as a run tells it.
func slowTold(v slowValue) api.Value {
	out := slowWhole(v)
	if slowPieces(out) > 10000 {
		out.Kids = nil
	}
	return out
}

func slowWhole(v slowValue) api.Value {
	out := api.Value{Kind: v.kind, N: v.n, Name: v.name}
	for _, kid := range v.kids {
		out.Kids = append(out.Kids, slowWhole(kid))
	}
	return out
}

func slowPieces(v api.Value) int {
	count := 1
	for _, kid := range v.Kids {
		count += slowPieces(kid)
	}
	return count
}

func (m *slowMachine) now() api.Run {
	out := api.Run{Trace: m.trace, Steps: m.steps, Konts: m.konts}
	out.Outcome.Kind = m.outcome
	if m.outcome == api.OutValue {
		out.Outcome.Value = slowTold(m.value)
	}
	return out
}
