package source

import "brocade/api"

// computed is a value within the machine.
type computed struct {
	kind int
	n    int          // as in api.Value
	con  *constructed // ValCon
	fun  function     // ValFun
}

// constructed is what a constructor made. Many values may have it, nobody writes to it.
type constructed struct {
	name string
	kids []computed
}

// function is a closure or a resumption: it is told what it is called with.
type function interface {
	call(m *machine, v computed)
}

func number(n int) computed { return computed{kind: api.ValInt, n: n} }

func truth(n int) computed { return computed{kind: api.ValBool, n: n} }

func unit() computed { return computed{kind: api.ValUnit} }

func ref(cell int) computed { return computed{kind: api.ValRef, n: cell} }

func fun(f function) computed { return computed{kind: api.ValFun, fun: f} }

func con(name string, kids []computed) computed {
	return computed{kind: api.ValCon, con: &constructed{name, kids}}
}

// kids is the values that a constructor has, of others none.
func (v computed) kids() []computed {
	if v.con == nil {
		return nil
	}
	return v.con.kids
}

// told is a value as a run tells it.
func (v computed) told() api.Value {
	if v.pieces(api.MaxValue) > api.MaxValue {
		return v.alone()
	}
	return v.whole()
}

// pieces is how many pieces a value has; of one that has more than most, some number above most.
// It stops counting there: a value may have more pieces than anyone could count.
func (v computed) pieces(most int) int {
	count := 1
	for _, kid := range v.kids() {
		if count > most {
			break
		}
		count += kid.pieces(most - count)
	}
	return count
}

// alone is a value without its kids.
func (v computed) alone() api.Value {
	out := api.Value{Kind: v.kind, N: v.n}
	if v.con != nil {
		out.Name = v.con.name
	}
	return out
}

// whole is a value with all that is within it.
func (v computed) whole() api.Value {
	out := v.alone()
	for _, kid := range v.kids() {
		out.Kids = append(out.Kids, kid.whole())
	}
	return out
}
