package source

import (
	"brocade/api"
	"brocade/value"
)

// arguments is how many arguments an operator has; false, if there is no such operator.
func arguments(operator string) (int, bool) {
	switch operator {
	case "read":
		return 0, true
	case "print", "ref", "!":
		return 1, true
	case "+", "-", "*", "/", "<", "=", ":=":
		return 2, true
	}
	return 0, false
}

// operate goes on with what an operator makes of as many values as it has arguments.
func (m *machine) operate(operator string, of []computed) {
	switch operator {
	case "read":
		m.read()
	case "print":
		m.print(of[0])
	case "ref":
		m.cells = append(m.cells, of[0])
		m.answer(ref(len(m.cells) - 1))
	case "!":
		m.load(of[0])
	case ":=":
		m.store(of[0], of[1])
	default:
		m.calculate(operator, of[0], of[1])
	}
}

func (m *machine) read() {
	if len(m.input) == 0 {
		m.end(api.OutInput)
		return
	}
	m.answer(number(m.input[0]))
	m.input = m.input[1:]
}

func (m *machine) print(v computed) {
	if v.kind != api.ValInt {
		m.end(api.OutStuck)
		return
	}
	m.trace = append(m.trace, v.n)
	m.answer(unit())
}

func (m *machine) load(from computed) {
	if from.kind != api.ValRef {
		m.end(api.OutStuck)
		return
	}
	m.answer(m.cells[from.n])
}

func (m *machine) store(to, v computed) {
	if to.kind != api.ValRef {
		m.end(api.OutStuck)
		return
	}
	m.cells[to.n] = v
	m.answer(unit())
}

func (m *machine) calculate(operator string, a, b computed) {
	if a.kind != api.ValInt || b.kind != api.ValInt {
		m.end(api.OutStuck)
		return
	}
	made, there := value.Op(operator, a.n, b.n)
	if !there {
		m.end(api.OutZero)
		return
	}
	m.answer(computed{kind: made.Kind, n: made.N})
}
