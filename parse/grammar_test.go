package parse_test

import (
	"slices"
	"strings"
	"testing"

	"brocade/api"
	"brocade/lex"
	"brocade/parse"
)

// grammar is the chapter's, as it stands there.
const grammar = `
program = {{ decl }} expr
decl    = effect large "{" [ sig {{ ";" sig }} ] "}"  |  data large "{" [ con {{ ";" con }} ] "}"
sig     = small ":" type "->" type
con     = large {{ type }}
type    = int | bool | unit | large
expr    = fun small "->" expr
        | let small "=" expr in expr
        | rec small small "=" expr in expr
        | if expr then expr else expr
        | match expr "{" [ way {{ ";" way }} ] "}"
        | handle large expr "{" return small "->" expr {{ ";" clause }} "}"
        | assign
way     = large {{ small }} "->" expr
clause  = small small small "->" expr
assign  = cmp [ ":=" cmp ]
cmp     = sum [ ( "<" | "=" ) sum ]
sum     = prod {{ ( "+" | "-" ) prod }}
prod    = unary {{ ( "*" | "/" ) unary }}
unary   = {{ print | ref | "!" | op! }} app
app     = atom {{ atom }}
atom    = number | true | false | small | "(" ")" | "(" expr ")" | read "(" ")"
        | large [ "(" [ expr {{ "," expr }} ] ")" ]
`

// trial is some words, and the furthest of them that any way of reading has got to and could not take.
type trial struct {
	words []api.Token
	far   int
}

func (r *trial) fails(at int) bool {
	r.far = max(r.far, at)
	return false
}

// part is a piece of the grammar: it tries all ways to read itself from a word on, and asks of each what comes next.
type part func(r *trial, at int, next func(at int) bool) bool

// reader makes parts of the grammar's text.
type reader struct {
	text  []string
	rules map[string]part
}

func (g *reader) take() string {
	text := g.text[0]
	g.text = g.text[1:]
	return text
}

func (g *reader) ends() bool {
	return len(g.text) == 0 || slices.Contains([]string{"|", "]", "}}", ")"}, g.text[0]) || len(g.text) > 1 && g.text[1] == "="
}

func (g *reader) choice() part {
	choices := []part{g.row()}
	for len(g.text) > 0 && g.text[0] == "|" {
		g.take()
		choices = append(choices, g.row())
	}
	return func(r *trial, at int, next func(at int) bool) bool {
		return slices.ContainsFunc(choices, func(p part) bool { return p(r, at, next) })
	}
}

func (g *reader) row() part {
	if g.ends() {
		return func(_ *trial, at int, next func(at int) bool) bool { return next(at) }
	}
	first, rest := g.item(), g.row()
	return func(r *trial, at int, next func(at int) bool) bool {
		return first(r, at, func(at int) bool { return rest(r, at, next) })
	}
}

func (g *reader) item() part {
	switch text := g.take(); text {
	case "(":
		inner := g.choice()
		g.take()
		return inner
	case "[":
		inner := g.choice()
		g.take()
		return func(r *trial, at int, next func(at int) bool) bool { return inner(r, at, next) || next(at) }
	case "{{":
		inner := g.choice()
		g.take()
		return many(inner)
	default:
		return g.word(text)
	}
}

func many(inner part) part {
	var again part
	again = func(r *trial, at int, next func(at int) bool) bool {
		return inner(r, at, func(at int) bool { return again(r, at, next) }) || next(at)
	}
	return again
}

func (g *reader) word(text string) part {
	kinds := map[string]int{"small": api.TokSmall, "large": api.TokLarge, "number": api.TokInt, "op!": api.TokDo}
	sign := strings.Trim(text, `"`)
	return func(r *trial, at int, next func(at int) bool) bool {
		if rule := g.rules[text]; rule != nil {
			return rule(r, at, next)
		}
		if at == len(r.words) {
			return r.fails(at)
		}
		word := r.words[at]
		if kind, ok := kinds[text]; ok && word.Kind != kind {
			return r.fails(at)
		} else if !ok && (word.Text != sign || word.Kind != api.TokKey && word.Kind != api.TokSign) {
			return r.fails(at)
		}
		return next(at + 1)
	}
}

func readGrammar() part {
	g := reader{text: strings.Fields(grammar), rules: map[string]part{}}
	for len(g.text) > 0 {
		name := g.take()
		g.take()
		g.rules[name] = g.choice()
	}
	return g.rules["program"]
}

// slowParse tells whether words are a program, and else how many of them are the beginning of one.
func slowParse(program part, words []api.Token) (bool, int) {
	r := trial{words: words}
	ok := program(&r, 0, func(at int) bool { return at == len(words) || r.fails(at) })
	return ok, r.far
}

// holdAgainstSlow holds Parse against the grammar, and tells whether the words are a program or the beginning of one.
func holdAgainstSlow(t *testing.T, program part, source string) bool {
	t.Helper()
	words, _, fault := lex.Lex([]byte(source))
	if fault != api.OK {
		t.Fatalf("%q: %v", source, fault)
	}
	ok, far := slowParse(program, words)
	place := len(source)
	if far < len(words) {
		place = words[far].At
	}
	_, at, err := parse.Parse([]byte(source))
	if ok && (err != api.OK || at != 0) || !ok && (err != api.ErrSyntax || at != place) {
		t.Fatalf("%q: %d and %v, not %d (a program: %v)", source, at, err, place, ok)
	}
	return ok || far == len(words)
}

// alphabet has all keywords and signs, and a word of each other kind.
var alphabet = strings.Fields("fun let in rec if then else match handle return effect data print read ref true false int bool unit -> := ( ) { } , ; : = + - * / < ! 7 x X get!")

// TestAllShortPrograms goes through all beginnings of programs of some few words, and all words behind each.
func TestAllShortPrograms(t *testing.T) {
	program := readGrammar()
	fine := []string{""}
	for range 4 {
		var longer []string
		for _, source := range fine {
			for _, word := range alphabet {
				if holdAgainstSlow(t, program, source+word+" ") {
					longer = append(longer, source+word+" ")
				}
			}
		}
		fine = longer
	}
	if len(fine) < 10000 {
		t.Errorf("only %d beginnings", len(fine))
	}
}

// TestWalks goes on from the beginning of a program by one word after the other, at each step by one that may be there.
func TestWalks(t *testing.T) {
	program := readGrammar()
	luck := dice(3)
	for range 400 {
		source := ""
		for range 25 {
			first := luck.under(len(alphabet))
			for i := range alphabet {
				word := alphabet[(first+7*i)%len(alphabet)] // 7 and 40 have no divisor together: each word once
				if holdAgainstSlow(t, program, source+word+"\n") {
					source += word + "\n"
					break
				}
			}
		}
	}
}
