package code_test

import (
	"math"
	"testing"

	"brocade/api"
)

// TestAtoms has atoms that are right, and what is almost one.
func TestAtoms(t *testing.T) {
	wantRight(t, variable("x"), "x", 1, "x")
	wantRight(t, variable("a b"), "a b", 1, "a b")
	wantRight(t, variable("'1"), "'1", 1, "'1")
	wantRight(t, number(0), "0", 1)
	wantRight(t, number(-7), "-7", 1)
	wantRight(t, number(math.MaxInt), "9223372036854775807", 1)
	wantRight(t, number(math.MinInt), "-9223372036854775808", 1)
	wantRight(t, truth(0), "false", 1)
	wantRight(t, truth(1), "true", 1)
	wantRight(t, unit(), "unit", 1)
	wantRight(t, fun("x", number(1)), "fun x { 1 }", 2)
	wantRight(t, fun("x", call(variable("f"), variable("x"))), "fun x { call f x }", 4, "f")
	for _, c := range []api.Code{
		{}, {Kind: -1}, {Kind: 16}, {Kind: math.MaxInt}, {Name: "x"}, variable(""), truth(2), truth(-1), truth(math.MinInt), {Kind: api.CodeUnit, N: 1}, form(api.CodeUnit, "unit"), form(api.CodeInt, "1"), form(api.CodeBool, "true"),
		{Kind: api.CodeVar, Name: "x", N: 1}, {Kind: api.CodeVar, Param: "x"}, form(api.CodeVar, "x", unit()), form(api.CodeInt, "", unit()), form(api.CodeBool, "", unit()), form(api.CodeUnit, "", unit()),
		form(api.CodeFun, "x"), fun("", unit()), fun("x", api.Code{}), form(api.CodeFun, "x", unit(), unit()), {Kind: api.CodeFun, Param: "x", Kids: []api.Code{unit()}},
	} {
		wantWrong(t, c, c)
	}
}

// wholes is right code of each kind that is no atom; of operators, one with each number of arguments.
func wholes() []api.Code {
	x, y := variable("x"), variable("y")
	return []api.Code{
		call(x, y), let("x", x, y), bind("x", x, y), rec("x", "y", x, y), choice(x, y, x),
		form(api.CodeOp, "+", x, y), form(api.CodeOp, "ref", x), form(api.CodeOp, "read"), con("C", x, y), con("C"),
		match(x, arm("A", x), arm("B", y, "x", "y")), yield("x", y),
		prompt("E", x, returns(), arm("x", y, "x", "y"), tail("y", x, "x")),
	}
}

// TestWholes has these, and no others, right where atoms are asked, and each where anything right may stand.
func TestWholes(t *testing.T) {
	for _, whole := range wholes() {
		text := slowText(whole)
		wantRight(t, whole, text, slowSize(whole), slowFree(whole)...)
		for _, c := range []api.Code{fun("z", whole), let("z", whole, unit()), let("z", unit(), whole), bind("z", whole, unit()), bind("z", unit(), whole), rec("z", "u", whole, unit()), rec("z", "u", unit(), whole), choice(unit(), whole, unit()), choice(unit(), unit(), whole), match(unit(), arm("A", whole)), prompt("E", whole, returns()), prompt("E", unit(), arm("return", whole, "z"), arm("x", whole, "u", "z"), tail("y", whole, "u"))} {
			wantRight(t, c, slowText(c), slowSize(c), slowFree(c)...)
		}
		for _, c := range []api.Code{call(whole, unit()), call(unit(), whole), choice(whole, unit(), unit()), form(api.CodeOp, "+", whole, unit()), form(api.CodeOp, "+", unit(), whole), form(api.CodeOp, "print", whole), con("C", whole), con("C", unit(), whole, unit()), match(whole, arm("A", unit())), yield("x", whole)} {
			wantWrong(t, text, c)
			wantWrong(t, text, fun("x", c))
		}
	}
}

// TestOperators has each operator with each number of arguments.
func TestOperators(t *testing.T) {
	for name, count := range map[string]int{"+": 2, "-": 2, "*": 2, "/": 2, "<": 2, "=": 2, ":=": 2, "print": 1, "ref": 1, "!": 1, "read": 0, "": -1, "%": -1, "Read": -1, "op": -1, "+ ": -1, ">": -1, "not": -1} {
		for kids := range 4 {
			c := form(api.CodeOp, name)
			text := "op " + name
			for range kids {
				c.Kids = append(c.Kids, number(kids))
				text += " " + string(rune('0'+kids))
			}
			if kids == count {
				wantRight(t, c, text, 1+kids)
			} else {
				wantWrong(t, c, c)
			}
		}
	}
}

// spoils are what makes right code wrong, of whatever kind it is, but for those that ask for the thing.
func spoils() map[string]func(c *api.Code) {
	return map[string]func(c *api.Code){
		"name":     func(c *api.Code) { c.Name = other(c.Name) },
		"param":    func(c *api.Code) { c.Param = other(c.Param) },
		"n":        func(c *api.Code) { c.N = 5 },
		"less":     func(c *api.Code) { c.Kids = c.Kids[:max(len(c.Kids)-1, 0)] },
		"more":     func(c *api.Code) { c.Kids = append(c.Kids[:len(c.Kids):len(c.Kids)], unit()) },
		"none":     func(c *api.Code) { c.Kids = nil },
		"kid":      func(c *api.Code) { c.Kids = append([]api.Code{{}}, c.Kids[min(len(c.Kids), 1):]...) },
		"last kid": func(c *api.Code) { c.Kids = append(c.Kids[:max(len(c.Kids)-1, 0):len(c.Kids)], variable("")) },
		"arms":     func(c *api.Code) { c.Arms = nil },
		"one arm":  func(c *api.Code) { c.Arms = append([]api.CodeArm{returns()}, c.Arms...) },
		"arm":      func(c *api.Code) { c.Arms = append(c.Arms[:len(c.Arms):len(c.Arms)], arm("A", api.Code{})) },
	}
}

// other is another name: none, if there is one.
func other(name string) string {
	if name == "" {
		return "x"
	}
	return ""
}

// TestSpoilt has each kind of code with one thing wrong, and with what is no harm to some kinds.
func TestSpoilt(t *testing.T) {
	harmless := map[string]bool{"int n": true, "con less": true, "con more": true, "con none": true, "match one arm": true, "prompt one arm": true}
	kinds := map[int]string{api.CodeInt: "int", api.CodeCon: "con", api.CodeMatch: "match", api.CodePrompt: "prompt"}
	for _, whole := range append(wholes(), variable("x"), number(1), truth(1), unit(), fun("x", unit())) {
		for what, spoil := range spoils() {
			c := copied(whole)
			spoil(&c)
			same := len(c.Kids) == len(whole.Kids) && (what == "less" || what == "none") || len(c.Arms) == len(whole.Arms) && what == "arms"
			fine := same || harmless[kinds[c.Kind]+" "+what]
			if whole.Kind == api.CodePrompt && what == "one arm" {
				fine = false // what it returns has one name, and stands second now
			}
			what = slowText(whole) + " " + what
			if fine {
				wantRight(t, c, slowText(c), slowSize(c), slowFree(c)...)
			} else {
				wantWrong(t, what, c)
			}
			want(t, what, slowRight(c), fine)
		}
	}
}

// TestWays has arms of a match, in any place.
func TestWays(t *testing.T) {
	for _, one := range []struct {
		arm  api.CodeArm
		text string
	}{
		{arm("A", unit()), "| A { unit }"}, {arm("A", unit(), "x"), "| A x { unit }"}, {arm("A", unit(), "x", "x", "_"), "| A x x _ { unit }"}, {arm("return", unit()), "| return { unit }"}, {arm("a b", fun("x", unit())), "| a b { fun x { unit } }"}, {api.CodeArm{Name: "A", Vars: []string{}, Body: unit()}, "| A { unit }"},
		{arm("", unit()), ""}, {arm("A", unit(), ""), ""}, {arm("A", unit(), "x", ""), ""}, {arm("A", unit(), "", "x"), ""}, {tail("A", unit()), ""}, {tail("A", unit(), "x"), ""}, {arm("A", api.Code{}), ""}, {arm("A", fun("", unit())), ""},
	} {
		fine := arm("B", number(1))
		for _, arms := range [][]api.CodeArm{{one.arm}, {fine, one.arm}, {one.arm, fine}, {one.arm, one.arm}, {fine, fine, one.arm}} {
			c := match(number(0), arms...)
			if one.text == "" {
				wantWrong(t, c, c)
				continue
			}
			text := "match 0"
			for _, a := range arms {
				if a.Name == "B" {
					text += " | B { 1 }"
				} else {
					text += " " + one.text
				}
			}
			wantRight(t, c, text, slowSize(c))
		}
	}
	wantWrong(t, "none", match(number(0)))
}

// TestClauses has arms of a prompt: the first one, and others.
func TestClauses(t *testing.T) {
	first := map[string]api.CodeArm{"| return x { unit }": arm("return", unit(), "x"), "| return _ { read }": arm("return", variable("read"), "_")}
	for text, a := range first {
		for rest, others := range map[string][]api.CodeArm{"": nil, " | get x k { unit }": {arm("get", unit(), "x", "k")}} {
			c := prompt("E", number(0), append([]api.CodeArm{a}, others...)...)
			wantRight(t, c, "prompt E { 0 } "+text+rest, slowSize(c), slowFree(a.Body)...)
		}
	}
	for _, a := range []api.CodeArm{arm("return", unit()), arm("return", unit(), ""), arm("return", unit(), "x", "k"), tail("return", unit(), "x"), tail("return", unit(), "x", "k"), arm("", unit(), "x"), arm("Return", unit(), "x"), arm("get", unit(), "x"), arm("get", unit(), "x", "k"), tail("get", unit(), "x"), arm("return", api.Code{}, "x")} {
		wantWrong(t, a, prompt("E", number(0), a))
		wantWrong(t, a, prompt("E", number(0), a, returns()))
		wantWrong(t, a, prompt("E", number(0), a, arm("get", unit(), "x", "k")))
	}
	for text, a := range map[string]api.CodeArm{"| get x k { unit }": arm("get", unit(), "x", "k"), "| get x x { unit }": arm("get", unit(), "x", "x"), "| return x k { unit }": arm("return", unit(), "x", "k"), "| tail get x { unit }": tail("get", unit(), "x"), "| tail return _ { unit }": tail("return", unit(), "_"), "| tail tail tail { unit }": tail("tail", unit(), "tail")} {
		wantRight(t, prompt("E", number(0), returns(), a), "prompt E { 0 } | return x { x } "+text, 4)
		wantRight(t, prompt("E", number(0), returns(), a, a), "prompt E { 0 } | return x { x } "+text+" "+text, 5)
	}
	fine := arm("get", unit(), "x", "k")
	for _, a := range []api.CodeArm{returns(), arm("get", unit()), arm("get", unit(), "x"), arm("get", unit(), "x", ""), arm("get", unit(), "", "k"), arm("get", unit(), "x", "k", "l"), arm("", unit(), "x", "k"), tail("get", unit()), tail("get", unit(), ""), tail("get", unit(), "x", "k"), tail("", unit(), "x"), arm("get", api.Code{}, "x", "k"), tail("get", variable(""), "x")} {
		wantWrong(t, a, prompt("E", number(0), returns(), a))
		wantWrong(t, a, prompt("E", number(0), returns(), fine, a))
		wantWrong(t, a, prompt("E", number(0), returns(), a, fine))
	}
	wantWrong(t, "none", prompt("E", number(0)))
	wantWrong(t, "no name", prompt("", number(0), returns()))
}

// TestWithin: what is wrong is so wherever it stands.
func TestWithin(t *testing.T) {
	for _, whole := range append(wholes(), fun("x", unit())) {
		for place := range places(&whole) {
			c := copied(whole)
			*places(&c)[place] = fun("x", fun("y", unit()))
			wantRight(t, c, slowText(c), slowSize(c), slowFree(c)...)
			for _, wrong := range []api.Code{{}, fun("x", fun("", unit())), fun("x", call(unit(), choice(whole, whole, whole))), fun("x", let("y", unit(), truth(2)))} {
				*places(&c)[place] = wrong
				wantWrong(t, c, c)
			}
		}
	}
}

// TestLists: a list without items is nil or empty.
func TestLists(t *testing.T) {
	for _, atom := range []api.Code{variable("x"), number(1), truth(1), unit(), con("C"), form(api.CodeOp, "read"), fun("x", unit()), call(unit(), unit())} {
		text, size, free := slowText(atom), slowSize(atom), slowFree(atom)
		if atom.Kids == nil {
			atom.Kids = []api.Code{}
		}
		atom.Arms = []api.CodeArm{}
		wantRight(t, atom, text, size, free...)
	}
}
