package lex_test

import (
	"slices"
	"strings"
	"testing"

	"brocade/api"
	"brocade/lex"
)

const (
	greatest = "9223372036854775807"
	tooGreat = "9223372036854775808"
)

var keywords = strings.Fields("fun let in rec if then else match handle return effect data print read ref true false int bool unit")

var signs = strings.Fields("-> := ( ) { } , ; : = + - * / < !")

// brief is a word in fewer letters than api.Token has.
type brief struct {
	kind int
	text string
	n    int
	at   int
}

func words(want []brief) []api.Token {
	var l []api.Token
	for _, x := range want {
		l = append(l, api.Token{Kind: x.kind, Text: x.text, N: x.n, At: x.at})
	}
	return l
}

func wantWords(t *testing.T, source string, want ...brief) {
	t.Helper()
	l, at, err := lex.Lex([]byte(source))
	if err != api.OK || at != 0 {
		t.Errorf("%.80q: %d and %v, not 0 and OK", source, at, err)
	}
	if !slices.Equal(l, words(want)) {
		t.Errorf("%.80q: %v, not %v", source, l, words(want))
	}
}

func wantFault(t *testing.T, source string, place int, fault api.Errno) {
	t.Helper()
	l, at, err := lex.Lex([]byte(source))
	if len(l) != 0 || at != place || err != fault {
		t.Errorf("%.80q: %d words, %d and %v, not none, %d and %v", source, len(l), at, err, place, fault)
	}
}

func TestBlanks(t *testing.T) {
	for _, source := range []string{"", " ", "\t", "\r", "\n", " \t\r\n \n\r\t ", "#", "#\n", "# $ \x00 \xff 99999999999999999999", " # a\n\t# b\r", "##\n#\n\n#"} {
		wantWords(t, source)
	}
	if l, at, err := lex.Lex(nil); len(l) != 0 || at != 0 || err != api.OK {
		t.Errorf("nil: %v %d %v", l, at, err)
	}
	small := func(text string, at int) brief { return brief{kind: api.TokSmall, text: text, at: at} }
	wantWords(t, "a\tb\rc\nd  e", small("a", 0), small("b", 2), small("c", 4), small("d", 6), small("e", 9))
	wantWords(t, "a#b\nc", small("a", 0), small("c", 4))
	wantWords(t, "a# b\rc # d\n#\ne#f", small("a", 0), small("e", 13))
}

func TestBlanksPartWords(t *testing.T) {
	wantWords(t, "a#\nb", brief{kind: api.TokSmall, text: "a"}, brief{kind: api.TokSmall, text: "b", at: 3})
	wantWords(t, "a#\n!b", brief{kind: api.TokSmall, text: "a"}, brief{kind: api.TokSign, text: "!", at: 3}, brief{kind: api.TokSmall, text: "b", at: 4})
	wantWords(t, ":#\n=", brief{kind: api.TokSign, text: ":"}, brief{kind: api.TokSign, text: "=", at: 3})
	wantWords(t, ": =", brief{kind: api.TokSign, text: ":"}, brief{kind: api.TokSign, text: "=", at: 2})
	wantFault(t, "- >", 2, api.ErrLex)
	wantFault(t, "-#\n>=", 3, api.ErrLex)
}

func TestNumbers(t *testing.T) {
	const top = 1<<63 - 1
	noughts := strings.Repeat("0", 100000)
	for text, n := range map[string]int{"0": 0, "1": 1, "9": 9, "10": 10, "0000": 0, "007": 7, "1234567890": 1234567890, greatest: top, "9223372036854775799": top - 8, noughts: 0, noughts + "1": 1, noughts + greatest: top} {
		wantWords(t, text, brief{kind: api.TokInt, text: text, n: n})
		wantWords(t, " "+text+"\n", brief{kind: api.TokInt, text: text, n: n, at: 1})
	}
	for _, text := range []string{tooGreat, "9223372036854775809", "9223372036854775810", "10000000000000000000", "18446744073709551615", "18446744073709551616", "18446744073709551617", "36893488147419103233", "340282366920938463463374607431768211457", noughts + tooGreat, "1" + noughts} {
		wantFault(t, text, 0, api.ErrLex)
		wantFault(t, "a 1+"+text+" b", 4, api.ErrLex)
	}
}

func TestNumbersEnd(t *testing.T) {
	wantWords(t, "12ab", brief{kind: api.TokInt, text: "12", n: 12}, brief{kind: api.TokSmall, text: "ab", at: 2})
	wantWords(t, "0_1", brief{kind: api.TokInt, text: "0"}, brief{kind: api.TokSmall, text: "_1", at: 1})
	wantWords(t, "0x1f", brief{kind: api.TokInt, text: "0"}, brief{kind: api.TokSmall, text: "x1f", at: 1})
	wantWords(t, "1!", brief{kind: api.TokInt, text: "1", n: 1}, brief{kind: api.TokSign, text: "!", at: 1})
	wantWords(t, "-1", brief{kind: api.TokSign, text: "-"}, brief{kind: api.TokInt, text: "1", n: 1, at: 1})
	wantWords(t, "1 2", brief{kind: api.TokInt, text: "1", n: 1}, brief{kind: api.TokInt, text: "2", n: 2, at: 2})
	wantFault(t, "1.5", 1, api.ErrLex)
}

func TestNames(t *testing.T) {
	for _, text := range []string{"a", "z", "_", "__", "_1", "_A", "aZ09_", "x1y2", "azAZ_09", "fun1", "fun_", "_fun", "funfun", "iff", "i", "intt", "unit0"} {
		wantWords(t, text, brief{kind: api.TokSmall, text: text})
	}
	for _, text := range []string{"A", "Z", "Az", "Z_9a", "Fun", "INT", "Unit", "True"} {
		wantWords(t, text, brief{kind: api.TokLarge, text: text})
	}
	wantFault(t, "ab\xc3\xa9", 2, api.ErrLex)
	wantFault(t, "\xc3\x84a", 0, api.ErrLex)
	wantFault(t, "a'", 1, api.ErrLex)
}

func TestKeywords(t *testing.T) {
	for _, text := range keywords {
		wantWords(t, text, brief{kind: api.TokKey, text: text})
		wantWords(t, text+"x", brief{kind: api.TokSmall, text: text + "x"})
		wantWords(t, strings.ToUpper(text), brief{kind: api.TokLarge, text: strings.ToUpper(text)})
		wantWords(t, text+"!", brief{kind: api.TokKey, text: text}, brief{kind: api.TokSign, text: "!", at: len(text)})
		wantWords(t, "1"+text+"(", brief{kind: api.TokInt, text: "1", n: 1}, brief{kind: api.TokKey, text: text, at: 1}, brief{kind: api.TokSign, text: "(", at: 1 + len(text)})
	}
	for _, text := range []string{"with", "do", "op", "console", "ints", "effects", "resume"} {
		wantWords(t, text, brief{kind: api.TokSmall, text: text})
	}
}

func TestDo(t *testing.T) {
	for _, text := range []string{"a", "_", "_0", "get", "fun_", "xY9"} {
		wantWords(t, text+"!", brief{kind: api.TokDo, text: text})
		wantWords(t, text+"!b", brief{kind: api.TokDo, text: text}, brief{kind: api.TokSmall, text: "b", at: len(text) + 1})
		wantWords(t, text+"!!", brief{kind: api.TokDo, text: text}, brief{kind: api.TokSign, text: "!", at: len(text) + 1})
		wantWords(t, text+" !", brief{kind: api.TokSmall, text: text}, brief{kind: api.TokSign, text: "!", at: len(text) + 1})
	}
	wantWords(t, "A!", brief{kind: api.TokLarge, text: "A"}, brief{kind: api.TokSign, text: "!", at: 1})
	wantWords(t, "!a", brief{kind: api.TokSign, text: "!"}, brief{kind: api.TokSmall, text: "a", at: 1})
	wantWords(t, "a!b!c", brief{kind: api.TokDo, text: "a"}, brief{kind: api.TokDo, text: "b", at: 2}, brief{kind: api.TokSmall, text: "c", at: 4})
	wantWords(t, "get!x->y", brief{kind: api.TokDo, text: "get"}, brief{kind: api.TokSmall, text: "x", at: 4}, brief{kind: api.TokSign, text: "->", at: 5}, brief{kind: api.TokSmall, text: "y", at: 7})
	wantWords(t, "f !x", brief{kind: api.TokSmall, text: "f"}, brief{kind: api.TokSign, text: "!", at: 2}, brief{kind: api.TokSmall, text: "x", at: 3})
}

func TestLongNames(t *testing.T) {
	for begin, kind := range map[string]int{"a": api.TokSmall, "_": api.TokSmall, "A": api.TokLarge, "fun": api.TokSmall} {
		long := begin + strings.Repeat("x", lex.MaxName-len(begin))
		wantWords(t, long, brief{kind: kind, text: long})
		wantWords(t, long+" a", brief{kind: kind, text: long}, brief{kind: api.TokSmall, text: "a", at: 61})
		for _, more := range []string{"x", "X", "0", "_", "x!", strings.Repeat("y", 1000)} {
			wantFault(t, long+more, 0, api.ErrLex)
			wantFault(t, "1 2"+long+more+" $", 3, api.ErrLex)
		}
	}
	long := strings.Repeat("n", 60)
	wantWords(t, long+"!x", brief{kind: api.TokDo, text: long}, brief{kind: api.TokSmall, text: "x", at: 61})
	wantWords(t, "N"+long[1:]+"!", brief{kind: api.TokLarge, text: "N" + long[1:]}, brief{kind: api.TokSign, text: "!", at: 60})
	if lex.MaxName != 60 {
		t.Errorf("MaxName is %d", lex.MaxName)
	}
}

func TestSigns(t *testing.T) {
	for _, text := range signs {
		sign := brief{kind: api.TokSign, text: text}
		wantWords(t, text, sign)
		wantWords(t, text+"1", sign, brief{kind: api.TokInt, text: "1", n: 1, at: len(text)})
		wantWords(t, text+text, sign, brief{kind: api.TokSign, text: text, at: len(text)})
	}
	for source, want := range map[string]string{"-->": "- ->", "->-": "-> -", "::=": ": :=", ":==": ":= =", "=:=": "= :=", ":-": ": -", "<-": "< -", "<=": "< =", "!=": "! =", "()": "( )", "-->:=:-->-": "- -> := : - -> -", "(){},;:+*/<!=": "( ) { } , ; : + * / < ! ="} {
		var l []brief
		at := 0
		for _, text := range strings.Fields(want) {
			l = append(l, brief{kind: api.TokSign, text: text, at: at})
			at += len(text)
		}
		wantWords(t, source, l...)
	}
}

// TestBytes takes each byte alone, and behind a word: what begins a word, what is a blank, and what is neither.
func TestBytes(t *testing.T) {
	const letters = "abcdefghijklmnopqrstuvwxyz"
	for c := range 256 {
		text := string([]byte{byte(c)})
		switch {
		case strings.Contains(" \t\r\n#", text):
			wantWords(t, text)
		case strings.Contains("0123456789", text):
			wantWords(t, text, brief{kind: api.TokInt, text: text, n: c - '0'})
		case strings.Contains(letters+"_", text):
			wantWords(t, text, brief{kind: api.TokSmall, text: text})
		case strings.Contains(strings.ToUpper(letters), text):
			wantWords(t, text, brief{kind: api.TokLarge, text: text})
		case strings.Contains("(){},;:=+-*/<!", text):
			wantWords(t, text, brief{kind: api.TokSign, text: text})
		default:
			wantFault(t, text, 0, api.ErrLex)
			wantFault(t, "a"+text, 1, api.ErrLex)
			wantFault(t, "x := 1 # "+text+"\n "+text, 12, api.ErrLex)
		}
	}
}

func TestFirstFault(t *testing.T) {
	long := strings.Repeat("l", 61)
	wantFault(t, "$ "+tooGreat+" "+long, 0, api.ErrLex)
	wantFault(t, "1 "+tooGreat+" $ "+long, 2, api.ErrLex)
	wantFault(t, "a "+long+" "+tooGreat+" $", 2, api.ErrLex)
	wantFault(t, "#$\n\n->$"+tooGreat, 6, api.ErrLex)
	wantFault(t, tooGreat+long, 0, api.ErrLex)
	wantFault(t, greatest+long, 19, api.ErrLex)
	wantFault(t, "a>b", 1, api.ErrLex)
	wantFault(t, "a! ?", 3, api.ErrLex)
	wantFault(t, "->>", 2, api.ErrLex)
}

func TestMaxSource(t *testing.T) {
	fill := func(c string) string { return strings.Repeat(c, api.MaxSource) }
	last := api.MaxSource - 1
	wantWords(t, fill(" "))
	wantWords(t, fill("#"))
	wantWords(t, fill(" ")[1:]+"x", brief{kind: api.TokSmall, text: "x", at: last})
	wantWords(t, fill("0"), brief{kind: api.TokInt, text: fill("0")})
	wantFault(t, fill(" ")[1:]+"$", last, api.ErrLex)
	wantFault(t, fill("x"), 0, api.ErrLex)
	wantFault(t, fill("9"), 0, api.ErrLex)
	for _, c := range []string{" ", "#", "x", "0", "$", "!"} {
		wantFault(t, fill(c)+c, 0, api.ErrLimit)
	}
	wantFault(t, "$"+fill(" ")+fill(" "), 0, api.ErrLimit)
	l, at, err := lex.Lex([]byte(fill("!")))
	if len(l) != api.MaxSource || l[last] != (api.Token{Kind: api.TokSign, Text: "!", At: last}) || at != 0 || err != api.OK {
		t.Errorf("%d words, %d and %v", len(l), at, err)
	}
}

// TestOwners writes over what was handed in, and over what was answered (R1, R4).
func TestOwners(t *testing.T) {
	const source = "let x = get!1 in # note\n A ( x )"
	b := []byte(source)
	l, _, _ := lex.Lex(b)
	if string(b) != source {
		t.Errorf("the source became %q", b)
	}
	for i := range b {
		b[i] = '$'
	}
	again, _, _ := lex.Lex([]byte(source))
	if len(l) != 10 || !slices.Equal(l, again) {
		t.Errorf("%v, not %v", l, again)
	}
	clear(l)
	if third, _, _ := lex.Lex([]byte(source)); !slices.Equal(third, again) {
		t.Errorf("%v, not %v", third, again)
	}
}
