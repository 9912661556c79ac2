package parse_test

import (
	"strings"
	"testing"

	"brocade/api"
	"brocade/parse"
)

// hole is a term with an expr left out: what is ahead of it, and what is behind it.
// A ~ marks where the first expr begins that stands right within the term; without one that is what is left out.
type hole struct{ ahead, behind string }

// holes has each place of the grammar at which an expr stands within another one.
var holes = []hole{
	{"( ", " )"},
	{"fun x -> ", ""},
	{"let x = ", " in 1"},
	{"let x = ~1 in ", ""},
	{"rec f x = ", " in 1"},
	{"rec f x = ~1 in ", ""},
	{"if ", " then 1 else 1"},
	{"if ~1 then ", " else 1"},
	{"if ~1 then 1 else ", ""},
	{"match ", " { }"},
	{"match ~1 { A -> ", " }"},
	{"match ~1 { A -> 1 ; B x -> ", " ; C -> 1 }"},
	{"handle E ", " { return x -> x }"},
	{"handle E ~1 { return x -> ", " ; f x k -> 1 }"},
	{"handle E ~1 { return x -> x ; f x k -> ", " }"},
	{"handle E ~1 { return x -> x ; f x k -> 1 ; g x k -> ", " }"},
	{"C ( ", " )"},
	{"C ( ~1 , ", " )"},
	{"C ( ~1 , ", " , 1 )"},
	{"1 + ! f ( ", " ) := 1"},
}

func (h hole) text() string { return strings.Replace(h.ahead, "~", "", 1) }

// first tells where the hole's first expr begins.
func (h hole) first() int {
	if at := strings.Index(h.ahead, "~"); at >= 0 {
		return at
	}
	return len(h.ahead)
}

// nested is holes within each other, by turns, with a text in the innermost one, and where that text begins.
func nested(count int, inner string, turns ...hole) (string, int) {
	var ahead, behind strings.Builder
	for i := range count {
		ahead.WriteString(turns[i%len(turns)].text())
		behind.WriteString(turns[(count-1-i)%len(turns)].behind)
	}
	return ahead.String() + inner + behind.String(), ahead.Len()
}

// left is nested without what is behind the innermost text.
func left(count int, inner string, turns ...hole) (string, int) {
	source, at := nested(count, "", turns...)
	return source[:at] + inner, at
}

// TestExprs has an expr within 200 others, and one within 201, and the word at which that shows.
func TestExprs(t *testing.T) {
	for i := range holes {
		wantExprs(t, holes[i])
		wantExprs(t, append(holes[i:len(holes):len(holes)], holes[:i]...)...)
	}
}

func wantExprs(t *testing.T, turns ...hole) {
	t.Helper()
	_, begin := left(200, "", turns...)
	last := turns[200%len(turns)]
	limit := begin + last.first()
	for _, word := range []string{"}", "in 1", "; x", "-> 1", ", 1", "int", ":", "return", "= )"} {
		source, at := left(200, word, turns...)
		wantFault(t, source, at, api.ErrSyntax)
		source, _ = left(201, word, turns...)
		wantFault(t, source, limit, api.ErrLimit)
		wantFault(t, source[:limit]+word, limit, api.ErrLimit)
	}
	for _, word := range []string{"x", "1", "fun y -> y", "( )", "( 1 )", "C ( 1 , 2 )", "! get! x", "match x { }", "if", "let 1"} {
		source, _ := nested(201, word, turns...)
		wantFault(t, source, limit, api.ErrLimit)
		wantFault(t, source+" } )", limit, api.ErrLimit)
		source, _ = left(500, word, turns...)
		wantFault(t, source, limit, api.ErrLimit)
	}
	for _, blanks := range []string{"", " ", "\n# note\n", "# note"} {
		source, _ := left(200, blanks, turns...)
		wantFault(t, source, len(source), api.ErrSyntax)
		source = source[:begin] + last.text()[:last.first()] + blanks
		wantFault(t, source, len(source), api.ErrLimit)
	}
	source, at := left(201, "$", turns...)
	wantFault(t, source, at, api.ErrLex)
	source, at = left(201, "1 ) } $", turns...)
	wantFault(t, source, at+6, api.ErrLex)
}

// TestExprsSide has exprs beside each other, which are not within each other, and brackets without an expr in them.
func TestExprsSide(t *testing.T) {
	wantFine(t, "f"+strings.Repeat(" ( 1 )", 199))
	wantFine(t, "C ( 1"+strings.Repeat(", ( 1 )", 1000)+")")
	wantFine(t, "match x { A -> 1"+strings.Repeat("; A -> ( 1 )", 1000)+"}")
	brackets := func(count int, inner string) string {
		return strings.Repeat("(", count) + inner + strings.Repeat(")", count)
	}
	wantProgram(t, brackets(200, "1"), "1@200")
	wantProgram(t, brackets(200, "( )"), "unit@200")
	wantProgram(t, brackets(200, "read ( )"), "(op@200 read)")
	wantProgram(t, brackets(200, "C ( )"), "(con@200 C)")
	wantProgram(t, brackets(200, "f ( ) x"), "(app@200 (app@200 f@200 unit@202) x@206)")
	wantFault(t, brackets(201, "1"), 201, api.ErrLimit)
	wantFault(t, brackets(200, "( 1 )"), 202, api.ErrLimit)
	wantFault(t, brackets(200, "C ( 1 )"), 204, api.ErrLimit)
	wantFault(t, brackets(200, "f ( ) ( 1 )"), 208, api.ErrLimit)
	wantFault(t, brackets(200, "( } )"), 202, api.ErrLimit)
	wantFault(t, strings.Repeat("(", 201)+")", 202, api.ErrSyntax)
	wantFault(t, strings.Repeat("(", 201)+") }", 203, api.ErrSyntax)
	wantFault(t, strings.Repeat("(", 202)+")", 201, api.ErrLimit)
}

// TestFirstOfTwo has a fault of both kinds: that of the first word is told.
func TestFirstOfTwo(t *testing.T) {
	deep := strings.Repeat("( ", 201)
	wantFault(t, ") "+deep+"1", 0, api.ErrSyntax)
	wantFault(t, "1 + "+deep+"1 ) ) }", 4+402, api.ErrLimit)
	wantFault(t, "f ! "+deep+"1", 2, api.ErrSyntax)
	wantFault(t, "C ( 1 ; "+deep+"1", 6, api.ErrSyntax)
	wantFault(t, "C ( 1 , "+deep+"1 ; }", 8+400, api.ErrLimit)
	wantFault(t, deep+"}", 402, api.ErrLimit)
	wantFault(t, deep[2:]+"} "+deep, 400, api.ErrSyntax)
	wantFault(t, "effect E { } data D "+deep, 20, api.ErrSyntax)
	wantFault(t, "effect E { } data D { } "+deep+"}", 24+402, api.ErrLimit)
}

// TestBodyDeep has what is 200 and 201 deep: the words of both are a program's.
func TestBodyDeep(t *testing.T) {
	for _, h := range append(holes[1:len(holes)-1], hole{"! ", ""}, hole{"get! ", ""}, hole{"print ", ""}, hole{"ref ", ""}, hole{"", " x"}, hole{"", " + 1"}, hole{"", " / 1"}, hole{"f ( ", " )"}, hole{"1 < ( ", " )"}) {
		for count, fault := range map[int]api.Errno{1: api.OK, 198: api.OK, 199: api.OK, 200: api.ErrLimit} {
			source, _ := nested(count, "y", h)
			if p, at, err := parse.Parse([]byte(source)); err != fault || at != 0 || (err != api.OK) != (p.Body.Kind == 0) {
				t.Errorf("%d of %v: %d and %v, not 0 and %v", count, h, at, err, fault)
			}
			if fault == api.ErrLimit {
				wantFault(t, source+" )", len(source)+1, api.ErrSyntax)
				wantFault(t, "# note\ndata D { A }"+source, 0, api.ErrLimit)
				wantFault(t, source+"$", len(source), api.ErrLex)
			}
		}
	}
	wantFault(t, strings.Repeat("1+", 300)+strings.Repeat("(", 201)+"1", 600+201, api.ErrLimit)
	wantFault(t, strings.Repeat("!", 200)+"x", 0, api.ErrLimit)
	wantFine(t, strings.Repeat("!", 199)+"x")
	wantFault(t, strings.Repeat("!", 199)+"f x", 0, api.ErrLimit)
	wantFine(t, strings.Repeat("!", 198)+"f x")
	wantFine(t, strings.Repeat("!", 199)+strings.Repeat("(", 200)+"x"+strings.Repeat(")", 200))
}
