package names_test

import (
	"fmt"
	"math"
	"slices"
	"strconv"
	"testing"

	"brocade/api"
	"brocade/names"
)

// twice has the same term two times, so many times over.
func twice(inmost api.Term, deep int, both func(a, b api.Term) api.Term) api.Term {
	for range deep {
		inmost = both(inmost, inmost)
	}
	return inmost
}

// times is 2 to some power; the greatest number, if it is more than that.
func times(power int) int {
	if power >= 63 {
		return math.MaxInt
	}
	return 1 << power
}

// TestShared has terms that stand within each other more often than anyone could go there.
func TestShared(t *testing.T) {
	x, y := variable("x"), variable("y")
	for _, deep := range []int{1, 2, 10, 17, 30, 62, 63, 64, 65, 200, 2000} {
		many := times(deep)
		wantFree(t, deep, twice(x, deep, app), map[string]int{"x": many})
		wantFree(t, deep, fun("x", twice(x, deep, app)), nil)
		wantFree(t, deep, fun("y", twice(x, deep, plus)), map[string]int{"x": many})
		shared := twice(app(x, y), deep, pair)
		wantFree(t, deep, shared, map[string]int{"x": many, "y": many})
		wantFree(t, deep, app(fun("x", shared), y), map[string]int{"y": more(many)})
		wantFree(t, deep, app(y, fun("x", shared)), map[string]int{"y": more(many)})
		wantFree(t, deep, app(fun("x", fun("y", shared)), fun("y", shared)), map[string]int{"x": many})
		wantFree(t, deep, app(shared, fun("x", fun("y", shared))), map[string]int{"x": many, "y": many})
		wantFree(t, deep, rec("x", "y", shared, fun("y", shared)), nil)
		same := func(a, b api.Term) api.Term { return let("x", a, b) }
		wantFree(t, deep, twice(x, deep, same), map[string]int{"x": 1})
		_, last := names.Last(arm("ask", app(variable("k"), twice(variable("k"), deep, app)), "x", "k"))
		want(t, deep, last, false)
		_, last = names.Last(arm("ask", app(variable("k"), twice(x, deep, app)), "x", "k"))
		want(t, deep, last, true)
	}
}

// more is one more than a number, if there is such a number.
func more(n int) int {
	if n == math.MaxInt {
		return n
	}
	return n + 1
}

// TestSharedPlain has values, plain terms, and others, inmost in terms that stand within each other.
func TestSharedPlain(t *testing.T) {
	call := app(variable("f"), variable("x"))
	for _, deep := range []int{1, 2, 10, 17, 30, 64, 200, 2000} {
		for inmost, term := range map[string]api.Term{"value": fun("x", call), "plain": plus(variable("x"), variable("y")), "neither": call} {
			fields := twice(term, deep, pair)
			want(t, inmost, names.Value(fields), inmost == "value")
			want(t, inmost, names.Plain(fields), inmost != "neither")
			sums := twice(term, deep, plus)
			want(t, inmost, names.Value(sums), false)
			want(t, inmost, names.Plain(sums), inmost != "neither")
			sums.Row.Var = 1
			want(t, inmost, names.Quiet(sums), inmost != "neither")
			recs := twice(term, deep, func(a, b api.Term) api.Term { return rec("f", "x", call, pair(a, b)) })
			want(t, inmost, names.Plain(recs), inmost != "neither")
			aside := pair(twice(variable("x"), deep, pair), term)
			want(t, inmost, names.Value(aside), inmost == "value")
			want(t, inmost, names.Plain(aside), inmost != "neither")
		}
	}
}

// web makes up terms that have lists together, and parts of lists; none stands within itself.
func (d *dice) web(count int) api.Term {
	all := make([]api.Term, 0, count)
	part := func(count int) []api.Term {
		from := d.under(len(all) - count + 1)
		return all[from : from+count]
	}
	for len(all) < cap(all) {
		t := variable(d.name())
		if len(all) >= 3 {
			switch d.under(7) {
			case 0:
				t = fun(d.name(), api.Term{})
				t.Kids = part(1)
			case 1:
				t = api.Term{Kind: api.TermOp, Name: "+", Kids: part(2)}
			case 2:
				t = api.Term{Kind: api.TermLet, Name: d.name(), Kids: part(2)}
			case 3:
				t = api.Term{Kind: api.TermRec, Name: d.name(), Param: d.name(), Kids: part(2)}
			case 4:
				t = api.Term{Kind: api.TermCon, Name: "C", Kids: part(3)}
			case 5:
				t = api.Term{Kind: api.TermMatch, Kids: part(1), Arms: []api.Arm{arm("A", part(1)[0], d.name(), d.name()), arm("B", part(1)[0])}}
			case 6:
				t = api.Term{Kind: api.TermApp, Kids: part(2)}
			}
		}
		all = append(all, t)
	}
	return all[len(all)-1]
}

// TestWebs holds the answers of made-up webs against the slow ones; a way down to them makes that terms are met before.
func TestWebs(t *testing.T) {
	luck := dice(5)
	for range 3000 {
		term := luck.web(4 + luck.under(14))
		if size(term) > 3000 {
			continue
		}
		counts := slowFree(term)
		wantFree(t, term, term, counts)
		want(t, term, []bool{names.Value(term), names.Plain(term)}, []bool{slowValue(term), slowPlain(term)})
	}
}

// TestWebsBehind has made-up webs many times over, behind more terms than anyone would go through without a mark.
func TestWebsBehind(t *testing.T) {
	luck := dice(6)
	many := twice(api.Term{Kind: api.TermUnit}, 40, pair)
	for range 100 {
		web := luck.web(4 + luck.under(14))
		if size(web) > 3000 {
			continue
		}
		around := pair(many, fun("x", let("y", web, pair(web, rec("z", "k", pair(web, web), web)))))
		near := fun("x", let("y", web, pair(web, rec("z", "k", pair(web, web), web))))
		wantFree(t, web, around, slowFree(near))
		front := pair(many, pair(web, many))
		wantFree(t, web, front, slowFree(web))
		want(t, web, []bool{names.Value(front), names.Plain(front)}, []bool{slowValue(web), slowPlain(web)})
	}
}

// size is how many terms a term is, told apart; about 3000, if that is more.
func size(t api.Term) int {
	sum := 1
	for _, place := range places(&t) {
		if sum <= 3000 {
			sum += size(*place)
		}
	}
	return sum
}

// TestWithinItself: of terms that stand within themselves all calls end, and what is free, and what is called, is found.
func TestWithinItself(t *testing.T) {
	for kind := -1; kind < 17; kind++ {
		self := api.Term{Kind: kind, Name: "x", Param: "y", Kids: []api.Term{variable("z"), variable("z")}, Arms: []api.Arm{arm("A", variable("z"), "x")}}
		for place := range places(&self) {
			again := copied(self)
			*places(&again)[place] = again
			if list := names.Free(again); !slices.Contains(list, "z") {
				t.Errorf("%d: %q", kind, list)
			}
			names.Value(again)
			names.Plain(again)
			names.Quiet(again)
			names.Last(arm("ask", app(variable("k"), again), "x", "k"))
		}
	}
	self := pair(variable("x"), variable("y"))
	self.Kids[1] = self
	want(t, "value", []bool{names.Value(self), names.Plain(self)}, []bool{true, true})
	self.Kids[0] = plus(variable("x"), variable("x"))
	want(t, "plain", []bool{names.Value(self), names.Plain(self)}, []bool{false, true})
	self.Kids[0] = app(variable("x"), variable("x"))
	want(t, "neither", []bool{names.Value(self), names.Plain(self)}, []bool{false, false})
}

// TestCircle has a circle of terms, each with a variable of its own.
func TestCircle(t *testing.T) {
	links := make([]api.Term, 1000)
	var list []string
	for n := range links {
		name := fmt.Sprintf("x%03d", n)
		links[n] = plus(variable(name), api.Term{})
		list = append(list, name)
	}
	for n := range links {
		links[n].Kids[1] = links[(n+1)%len(links)]
	}
	want(t, "all", names.Free(links[0]), list)
	want(t, "but one", names.Free(fun("x007", links[300])), slices.Delete(slices.Clone(list), 7, 8))
	want(t, "plain", names.Plain(links[0]), true)
	links[999].Kids[0] = app(variable("f"), variable("x"))
	want(t, "plain", names.Plain(links[0]), false)
}

// TestDeep has each kind within itself, in each place, so often that nobody writes it.
func TestDeep(t *testing.T) {
	forms := []api.Term{
		fun("y", api.Term{}), app(api.Term{}, api.Term{}), let("y", api.Term{}, api.Term{}), rec("y", "z", api.Term{}, api.Term{}), plus(api.Term{}, api.Term{}), pair(api.Term{}, api.Term{}),
		{Kind: api.TermIf, Kids: make([]api.Term, 3)}, {Kind: api.TermDo, Kids: make([]api.Term, 1)}, {Kind: api.TermMatch, Kids: make([]api.Term, 1), Arms: []api.Arm{arm("A", api.Term{}, "y")}},
		{Kind: api.TermHandle, Kids: make([]api.Term, 1), Arms: []api.Arm{arm("return", api.Term{}, "y"), arm("ask", api.Term{}, "y", "z")}},
	}
	for _, form := range forms {
		for place := range places(&form) {
			term := variable("x")
			for range 10000 {
				around := copied(form)
				for _, at := range places(&around) {
					*at = api.Term{Kind: api.TermUnit}
				}
				*places(&around)[place] = term
				term = around
			}
			wantFree(t, form.Kind, term, map[string]int{"x": 1})
			wantFree(t, form.Kind, fun("x", term), nil)
			calls := form.Kind == api.TermApp || form.Kind == api.TermDo || form.Kind == api.TermHandle
			want(t, form.Kind, names.Plain(term), !calls)
			want(t, form.Kind, names.Value(term), form.Kind == api.TermCon || form.Kind == api.TermFun)
		}
	}
}

// TestDeepNames has thousands of names bound one within the other, all of them used inmost, and as many that are free.
func TestDeepNames(t *testing.T) {
	const deep = 1000
	in, counts := variable("x0"), map[string]int{}
	for n := range deep {
		in = plus(plus(in, variable("x"+strconv.Itoa(n))), variable("free"+strconv.Itoa(n%300)))
		counts["free"+strconv.Itoa(n%300)]++
	}
	for n := range deep {
		in = let("x"+strconv.Itoa(n), variable("x"+strconv.Itoa(n)), in)
		counts["x"+strconv.Itoa(n)]++
	}
	wantFree(t, "deep", in, counts)
	want(t, "plain", names.Plain(in), true)
}

// TestWide has a term with very many kids, and an arm with very many names.
func TestWide(t *testing.T) {
	const wide = 200000
	list, kids := make([]string, wide), make([]api.Term, wide)
	for n := range wide {
		list[n] = fmt.Sprintf("x%06d", n)
		kids[n] = variable(list[n])
	}
	con := api.Term{Kind: api.TermCon, Name: "C", Kids: kids}
	want(t, "value", []bool{names.Value(con), names.Plain(con)}, []bool{true, true})
	want(t, "free", names.Free(con), list)
	match := api.Term{Kind: api.TermMatch, Kids: []api.Term{con}, Arms: []api.Arm{arm("C", pair(con, con), list[1:]...)}}
	want(t, "the first one", names.Uses(match, list[0]), 3)
	want(t, "the last one", names.Uses(match, list[wide-1]), 1)
	want(t, "match", []bool{names.Value(match), names.Plain(match)}, []bool{false, true})
	around := fun("x", api.Term{Kind: api.TermMatch, Kids: []api.Term{variable("x")}, Arms: []api.Arm{arm("C", con, list...)}})
	want(t, "closed", len(names.Free(around)), 0)
	kids[wide-1] = app(variable("f"), variable("x"))
	want(t, "a call", []bool{names.Value(con), names.Plain(con), names.Plain(match)}, []bool{false, false, false})
}

// TestLarge has more terms than are left without a mark, none of them in two places.
func TestLarge(t *testing.T) {
	for _, deep := range []int{15, 16, 17} {
		term := full(deep)
		wantFree(t, deep, term, map[string]int{"x": 1 << (deep - 1), "y": 1 << (deep - 1)})
		wantFree(t, deep, fun("x", term), map[string]int{"y": 1 << (deep - 1)})
		wantFree(t, deep, pair(fun("x", term), fun("y", term)), map[string]int{"x": 1 << (deep - 1), "y": 1 << (deep - 1)})
		want(t, deep, []bool{names.Value(term), names.Plain(term)}, []bool{true, true})
		last := &term
		for len(last.Kids) > 0 {
			last = &last.Kids[len(last.Kids)-1]
		}
		*last = app(variable("x"), variable("y"))
		want(t, deep, []bool{names.Value(term), names.Plain(term)}, []bool{false, false})
	}
}

// full has a term in each place so deep down.
func full(deep int) api.Term {
	if deep == 1 {
		return pair(variable("x"), variable("y"))
	}
	return pair(full(deep-1), full(deep-1))
}
