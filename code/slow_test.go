package code_test

import (
	"fmt"
	"regexp"
	"slices"
	"sort"
	"strings"

	"brocade/api"
)

// figures are what right code of each kind looks like (figure): N is a name, R `return`, 2, 1 and 0 an operator with as
// many arguments, a an atom, c other code, v a name in an arm.
var figures = map[int]*regexp.Regexp{
	api.CodeVar:    figured(`[NR210]- 0  `),
	api.CodeInt:    figured(`-- -?\d+  `),
	api.CodeBool:   figured(`-- [01]  `),
	api.CodeUnit:   figured(`-- 0  `),
	api.CodeFun:    figured(`[NR210]- 0 [ac] `),
	api.CodeApp:    figured(`-- 0 aa `),
	api.CodeLet:    figured(`[NR210]- 0 [ac][ac] `),
	api.CodeBind:   figured(`[NR210]- 0 [ac][ac] `),
	api.CodeRec:    figured(`[NR210][NR210] 0 [ac][ac] `),
	api.CodeIf:     figured(`-- 0 a[ac][ac] `),
	api.CodeOp:     figured(`(2- 0 aa |1- 0 a |0- 0  )`),
	api.CodeCon:    figured(`[NR210]- 0 a* `),
	api.CodeMatch:  figured(`-- 0 a (\{[NR210]v*\.[ac]\})+`),
	api.CodeYield:  figured(`[NR210]- 0 a `),
	api.CodePrompt: figured(`[NR210]- 0 [ac] \{Rv\.[ac]\}(\{[NR210](vv\.|vT)[ac]\})*`),
}

func figured(text string) *regexp.Regexp { return regexp.MustCompile("^" + text + "$") }

func nameFigure(name string) string {
	switch name {
	case "":
		return "-"
	case "return":
		return "R"
	case "+", "-", "*", "/", "<", "=", ":=":
		return "2"
	case "print", "ref", "!":
		return "1"
	case "read":
		return "0"
	}
	return "N"
}

// partFigure is a piece within another one.
func partFigure(c api.Code) string {
	switch {
	case !slowRight(c):
		return "!"
	case c.Kind <= api.CodeFun:
		return "a"
	}
	return "c"
}

func figure(c api.Code) string {
	out := nameFigure(c.Name) + nameFigure(c.Param) + fmt.Sprintf(" %d ", c.N)
	for _, kid := range c.Kids {
		out += partFigure(kid)
	}
	out += " "
	for _, arm := range c.Arms {
		out += "{" + nameFigure(arm.Name)
		for _, name := range arm.Vars {
			out += map[bool]string{true: "v", false: "-"}[name != ""]
		}
		out += map[bool]string{true: "T", false: "."}[arm.Tail] + partFigure(arm.Body) + "}"
	}
	return out
}

func slowRight(c api.Code) bool {
	is := figures[c.Kind]
	return is != nil && is.MatchString(figure(c))
}

func slowSize(c api.Code) int { return len(within(&c)) }

// slowFree is the names that stand in code where nothing around binds them.
func slowFree(c api.Code, bound ...string) []string {
	free := map[string]int{}
	var look func(c api.Code, bound []string)
	look = func(c api.Code, bound []string) {
		if c.Kind == api.CodeVar && (c.Name == "_" || !slices.Contains(bound, c.Name)) {
			free[c.Name]++
		}
		for n, kid := range c.Kids {
			inner := slices.Clone(bound)
			switch fmt.Sprint(c.Kind, ",", n) {
			case "5,0", "7,1", "8,1", "9,1":
				inner = append(inner, c.Name)
			case "9,0":
				inner = append(inner, c.Name, c.Param)
			}
			look(kid, inner)
		}
		for _, arm := range c.Arms {
			look(arm.Body, slices.Concat(bound, arm.Vars))
		}
	}
	look(c, bound)
	var out []string
	for name := range free {
		out = append(out, name)
	}
	sort.Strings(out)
	return out
}

// slowText is the text of right code.
func slowText(c api.Code) string {
	// first is how many of the kids are atoms that are not bodies
	line, first := map[int]string{
		api.CodeVar: c.Name, api.CodeInt: fmt.Sprint(c.N), api.CodeBool: fmt.Sprint(c.N == 1), api.CodeUnit: "unit", api.CodeFun: "fun " + c.Name, api.CodeApp: "call", api.CodeLet: "let " + c.Name, api.CodeBind: "bind " + c.Name, api.CodeRec: "rec " + c.Name + " " + c.Param,
		api.CodeIf: "if", api.CodeOp: "op " + c.Name, api.CodeCon: "con " + c.Name, api.CodeMatch: "match", api.CodeYield: "yield " + c.Name, api.CodePrompt: "prompt " + c.Name,
	}[c.Kind], 0
	switch c.Kind {
	case api.CodeIf:
		first = 1
	case api.CodeApp, api.CodeOp, api.CodeCon, api.CodeMatch, api.CodeYield:
		first = len(c.Kids)
	}
	for n, kid := range c.Kids {
		if n >= first || kid.Kind == api.CodeFun {
			line += " { " + slowText(kid) + " }"
		} else {
			line += " " + slowText(kid)
		}
	}
	for _, arm := range c.Arms {
		names := strings.Join(append([]string{arm.Name}, arm.Vars...), " ")
		if arm.Tail {
			names = "tail " + names
		}
		line += " | " + names + " { " + slowText(arm.Body) + " }"
	}
	return line
}
