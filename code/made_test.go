package code_test

import (
	"slices"
	"testing"

	"brocade/api"
	"brocade/code"
)

// dice are numbers that are the same in each run.
type dice uint32

func (d *dice) under(n int) int {
	*d = *d*1664525 + 1013904223
	return int(uint32(*d)>>8) % n
}

func pick[A any](d *dice, l []A) A { return l[d.under(len(l))] }

func (d *dice) name() string { return pick(d, []string{"x", "y", "z", "k", "_", "'1", "'12"}) }

func (d *dice) names(count int) []string {
	var out []string
	for range count {
		out = append(out, d.name())
	}
	return out
}

// code makes up right code.
func (d *dice) code(size int) api.Code {
	if size <= 0 {
		return d.atom(0)
	}
	kid := func() api.Code { return d.code(size - 1 - d.under(2)) }
	atom := func() api.Code { return d.atom(size - 1) }
	switch d.under(13) {
	case 0:
		return call(atom(), atom())
	case 1, 2:
		return let(d.name(), kid(), kid())
	case 3, 4:
		return bind(d.name(), kid(), kid())
	case 5:
		return rec(d.name(), d.name(), kid(), kid())
	case 6:
		return choice(atom(), kid(), kid())
	case 7:
		return form(api.CodeOp, pick(d, []string{"+", "-", "*", "/", "<", "=", ":="}), atom(), atom())
	case 8:
		return pick(d, []api.Code{form(api.CodeOp, pick(d, []string{"print", "ref", "!"}), atom()), form(api.CodeOp, "read"), yield("get", atom())})
	case 9:
		c := con(pick(d, []string{"Nil", "Cons"}))
		for range d.under(4) {
			c.Kids = append(c.Kids, atom())
		}
		return c
	case 10:
		c := match(atom())
		for range 1 + d.under(3) {
			c.Arms = append(c.Arms, arm(pick(d, []string{"Nil", "Cons", "return"}), kid(), d.names(d.under(4))...))
		}
		return c
	case 11:
		return d.prompt(kid)
	}
	return d.atom(size)
}

func (d *dice) prompt(kid func() api.Code) api.Code {
	c := prompt("E", kid(), arm("return", kid(), d.name()))
	for range d.under(3) {
		if d.under(2) == 0 {
			c.Arms = append(c.Arms, arm("get", kid(), d.names(2)...))
		} else {
			c.Arms = append(c.Arms, tail("put", kid(), d.names(1)...))
		}
	}
	return c
}

func (d *dice) atom(size int) api.Code {
	switch d.under(8) {
	case 0, 1:
		return number(d.under(9) - 4)
	case 2:
		return pick(d, []api.Code{truth(0), truth(1), unit()})
	case 3, 4:
		if size > 0 {
			return fun(d.name(), d.code(size-1))
		}
	}
	return variable(d.name())
}

// TestMade holds all that is told of made-up code against the slow ways, and reads its text.
func TestMade(t *testing.T) {
	luck := dice(1)
	kinds := map[int]int{}
	for n := range 20000 {
		c := luck.code(n % 7)
		text := slowText(c)
		wantRight(t, c, text, slowSize(c), slowFree(c)...)
		want(t, text, slowRight(c), true)
		want(t, text, read(t, text), c)
		for _, part := range within(&c) {
			kinds[part.Kind]++
		}
	}
	for kind := api.CodeVar; kind <= api.CodePrompt; kind++ {
		if kinds[kind] < 1500 {
			t.Errorf("%d of kind %d", kinds[kind], kind)
		}
	}
}

// TestMadeParts: what is right has right parts.
func TestMadeParts(t *testing.T) {
	luck := dice(2)
	for n := range 500 {
		c := luck.code(n % 6)
		for _, part := range within(&c) {
			want(t, c, code.Right(*part), true)
		}
	}
}

// spoil makes one place of some code another one.
func (d *dice) spoil(c *api.Code) {
	at := pick(d, within(c))
	switch d.under(12) {
	case 0:
		at.Kind = d.under(17)
	case 1:
		at.Name = pick(d, []string{"", "x", "+", "print", "read"})
	case 2:
		at.Param = d.name()
	case 3:
		at.N = d.under(4) - 1
	case 4:
		at.Kids = append(at.Kids, d.atom(2))
	case 5:
		at.Kids = at.Kids[:max(len(at.Kids)-1, 0)]
	case 6:
		at.Arms = at.Arms[:max(len(at.Arms)-1, 0)]
	case 7:
		at.Arms = append([]api.CodeArm{arm("return", d.atom(2), d.name())}, at.Arms...)
	case 8:
		*at = d.code(2)
	default:
		if len(at.Arms) > 0 {
			d.spoilArm(&at.Arms[d.under(len(at.Arms))])
		}
	}
}

func (d *dice) spoilArm(a *api.CodeArm) {
	switch d.under(4) {
	case 0:
		a.Name = pick(d, []string{"", "return", "get"})
	case 1:
		a.Tail = !a.Tail
	case 2:
		a.Vars = append(a.Vars, pick(d, []string{"x", ""}))
	case 3:
		a.Vars = a.Vars[:max(len(a.Vars)-1, 0)]
	}
}

// TestMadeSpoilt holds Right against the slow way for code that may be wrong at some places.
func TestMadeSpoilt(t *testing.T) {
	luck := dice(3)
	fine, wrong := 0, 0
	for n := range 40000 {
		c := luck.code(n % 5)
		for range 1 + luck.under(2) {
			luck.spoil(&c)
		}
		want(t, c, code.Size(c), slowSize(c))
		if slowRight(c) {
			wantRight(t, c, slowText(c), slowSize(c), slowFree(c)...)
			fine++
		} else {
			wantWrong(t, c, c)
			wrong++
		}
	}
	if fine < 5000 || wrong < 5000 {
		t.Errorf("%d are right, %d are not", fine, wrong)
	}
}

// TestAllForms has all kinds with all sorts of parts.
func TestAllForms(t *testing.T) {
	parts := []api.Code{variable("x"), fun("x", variable("y")), call(unit(), unit()), {Kind: 99, Name: "x"}}
	arms := [][]api.CodeArm{nil, {arm("A", unit())}, {returns()}, {returns(), arm("A", unit(), "x", "y")}, {returns(), tail("A", unit(), "x")}, {arm("A", unit(), "x", "y"), returns()}, {tail("A", unit(), "x")}, {tail("return", unit(), "x")}}
	fine := map[int]int{}
	for kind := -1; kind < 18; kind++ {
		for _, name := range []string{"", "x", "+", "!", "read"} {
			for _, param := range []string{"", "y"} {
				for n := -1; n < 3; n++ {
					for _, part := range parts {
						for kids := range 5 {
							for _, some := range arms {
								c := api.Code{Kind: kind, Name: name, Param: param, N: n, Kids: slices.Repeat([]api.Code{part}, kids), Arms: some}
								right := slowRight(c)
								if code.Right(c) != right {
									t.Errorf("%+v: not %v", c, right)
								}
								if right {
									fine[kind]++
									wantRight(t, c, slowText(c), slowSize(c), slowFree(c)...)
								}
							}
						}
					}
				}
			}
		}
	}
	want(t, "kinds", len(fine), 15)
}

// TestSame: the same calls have the same answers (R4), whichever others were in between.
func TestSame(t *testing.T) {
	luck := dice(4)
	for range 300 {
		c := luck.code(6)
		text, size, free := slowText(c), code.Size(c), code.Free(c)
		for range 5 {
			other := luck.code(4)
			luck.spoil(&other)
			code.Free(other)
			code.Text(other)
			wantRight(t, copied(c), text, size, free...)
		}
	}
}
