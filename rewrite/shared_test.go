package rewrite_test

import (
	"fmt"
	"testing"

	"brocade/api"
	"brocade/rewrite"
)

// twice has the same term two times, so many times over.
func twice(inmost api.Term, deep int, both func(a, b api.Term) api.Term) api.Term {
	for range deep {
		inmost = both(inmost, inmost)
	}
	return inmost
}

// TestShared has terms that stand within each other more often than anyone could go there.
func TestShared(t *testing.T) {
	under := func(name string) func(a, b api.Term) api.Term {
		return func(a, b api.Term) api.Term { return fun(name, pair(a, b)) }
	}
	sides := func(name, other string) func(a, b api.Term) api.Term {
		return func(a, b api.Term) api.Term { return pair(fun(name, a), let(other, b, a)) }
	}
	ways := func(name, other string) func(a, b api.Term) api.Term {
		return func(a, b api.Term) api.Term { return match(a, arm("A", b, name, other), arm("B", a, other)) }
	}
	x, y, z, nobody := variable("x"), variable("y"), variable("z"), variable("_")
	for _, deep := range []int{1, 2, 10, 15, 16, 17, 18, 30, 200, 2000} {
		wantPair := func(what string, a, b api.Term, alike bool) {
			t.Helper()
			want(t, []any{deep, what}, []bool{rewrite.Alike(a, b), rewrite.Alike(b, a)}, []bool{alike, alike})
		}
		wantPair("free", twice(x, deep, pair), twice(x, deep, pair), true)
		wantPair("not the same", twice(x, deep, pair), twice(y, deep, pair), false)
		wantPair("not as deep", twice(x, deep, pair), twice(x, deep+1, pair), false)
		wantPair("bound", fun("x", twice(x, deep, pair)), fun("y", twice(y, deep, pair)), true)
		wantPair("not bound", fun("x", twice(x, deep, pair)), fun("y", twice(x, deep, pair)), false)
		wantPair("bound elsewhere", fun("x", fun("y", twice(x, deep, pair))), fun("y", fun("x", twice(x, deep, pair))), false)
		wantPair("under", twice(pair(x, z), deep, under("x")), twice(pair(y, z), deep, under("y")), true)
		wantPair("under another", twice(pair(x, z), deep, under("x")), twice(pair(y, z), deep, under("z")), false)
		wantPair("under none", twice(z, deep, under("x")), twice(z, deep, under("y")), true)
		wantPair("sides", twice(pair(x, y), deep, sides("x", "y")), twice(pair(x, y), deep, sides("x", "y")), true)
		wantPair("other sides", twice(pair(x, y), deep, sides("x", "y")), twice(pair(y, x), deep, sides("y", "x")), false)
		wantPair("around", fun("x", fun("y", twice(pair(x, y), deep, sides("x", "y")))), fun("y", fun("x", twice(pair(y, x), deep, sides("y", "x")))), true)
		wantPair("not around", fun("x", fun("y", twice(pair(x, y), deep, sides("x", "y")))), fun("x", fun("y", twice(pair(y, x), deep, sides("y", "x")))), false)
		wantPair("ways", twice(pair(x, z), deep, ways("x", "y")), twice(pair(x, z), deep, ways("x", "y")), true)
		wantPair("other ways", fun("x", twice(pair(x, z), deep, ways("x", "x"))), fun("y", twice(pair(y, z), deep, ways("_", "y"))), true)
		wantPair("no ways", fun("x", twice(pair(x, z), deep, ways("x", "y"))), fun("y", twice(pair(y, z), deep, ways("x", "y"))), false)
		wantPair("nobody", fun("_", twice(nobody, deep, pair)), fun("x", twice(nobody, deep, pair)), true)
		wantPair("nobody and somebody", fun("_", twice(nobody, deep, pair)), fun("x", twice(x, deep, pair)), false)
		wantPair("under nobody", twice(pair(x, nobody), deep, under("_")), twice(pair(x, nobody), deep, under("y")), true)
		wantPair("under nobody and somebody", twice(nobody, deep, under("_")), twice(y, deep, under("y")), false)
		wantPair("ways of nobody", fun("x", twice(pair(x, nobody), deep, ways("x", "_"))), fun("y", twice(pair(y, nobody), deep, ways("y", "z"))), true)
		one := twice(x, deep, pair)
		wantPair("two of one", pair(fun("x", one), fun("y", one)), pair(fun("x", one), fun("z", one)), true)
		wantPair("one of two", pair(fun("x", one), fun("y", one)), pair(fun("z", one), fun("y", one)), false)
		wantPair("one and the other", pair(fun("x", one), fun("y", one)), pair(fun("y", one), fun("x", one)), false)
	}
}

// web makes up terms that have lists together, and parts of lists; none stands within itself.
func (d *dice) web(count int) api.Term {
	all := make([]api.Term, 0, count)
	part := func(count int) []api.Term {
		from := d.under(len(all) - count + 1)
		return all[from : from+count]
	}
	for len(all) < cap(all) {
		t := variable(d.name())
		if len(all) >= 3 {
			switch d.under(7) {
			case 0, 1:
				t = fun(d.name(), api.Term{})
				t.Kids = part(1)
			case 2:
				t = api.Term{Kind: api.TermApp, Kids: part(2)}
			case 3:
				t = api.Term{Kind: api.TermLet, Name: d.name(), Kids: part(2)}
			case 4:
				t = api.Term{Kind: api.TermRec, Name: d.name(), Param: d.name(), Kids: part(2)}
			case 5:
				t = api.Term{Kind: api.TermCon, Name: "C", Kids: part(3)}
			case 6:
				t = api.Term{Kind: api.TermMatch, Kids: part(1), Arms: []api.Arm{arm("A", part(1)[0], d.name(), d.name()), arm("B", part(1)[0])}}
			}
		}
		all = append(all, t)
	}
	return all[len(all)-1]
}

// size is how many terms a term is, told apart; about 3000, if that is more.
func size(t api.Term) int {
	sum := 1
	for _, place := range places(&t) {
		if sum <= 3000 {
			sum += size(*place)
		}
	}
	return sum
}

// someWebs makes up webs that are not too large for the slow ways, told apart.
func someWebs(luck *dice, count int) []api.Term {
	var out []api.Term
	for len(out) < count {
		if web := luck.web(4 + luck.under(14)); size(web) <= 3000 {
			out = append(out, web)
		}
	}
	return out
}

// TestWebs holds the answers of made-up webs against the slow ones.
func TestWebs(t *testing.T) {
	luck := dice(13)
	for _, web := range someWebs(&luck, 2000) {
		apart := rewrite.Apart(web)
		want(t, web, nilled(apart), nilled(slowApart(web)))
		wantAlike(t, web, web, apart, true)
	}
}

// TestWebsAgain has made-up webs in several places, where unlike names are bound.
func TestWebsAgain(t *testing.T) {
	luck := dice(14)
	fine, wrong := 0, 0
	for _, web := range someWebs(&luck, 600) {
		other := copied(web)
		luck.rename(&other)
		place := func(web api.Term, a, b string) api.Term {
			return pair(fun(a, web), pair(let(b, web, web), rec(a, b, web, match(web, arm("A", web, b, a)))))
		}
		for range 3 {
			left, right := place(web, luck.name(), luck.name()), place(pick(&luck, []api.Term{web, other}), luck.name(), luck.name())
			alike := nameless(left) == nameless(right)
			want(t, web, []bool{rewrite.Alike(left, right), rewrite.Alike(right, left)}, []bool{alike, alike})
			if alike {
				fine++
			} else {
				wrong++
			}
		}
	}
	if fine < 100 || wrong < 100 {
		t.Errorf("%d pairs are alike, %d are not", fine, wrong)
	}
}

// TestTooLarge: of terms that would be too many, told apart, Apart answers some that are alike.
func TestTooLarge(t *testing.T) {
	free := twice(variable("x"), 60, pair)
	want(t, "free", rewrite.Alike(rewrite.Apart(free), free), true)
	for _, term := range []api.Term{fun("x", free), let("x", free, free), twice(fun("x", variable("x")), 60, pair), match(free, arm("A", free, "x"))} {
		want(t, text(api.Term{Kind: term.Kind}), rewrite.Alike(rewrite.Apart(term), term), true)
	}
}

// TestWithinItself: of terms that stand within themselves all calls end, and find what is unlike right there.
func TestWithinItself(t *testing.T) {
	for kind := -1; kind < 17; kind++ {
		self := api.Term{Kind: kind, Name: "x", Param: "y", Kids: []api.Term{variable("z"), variable("z")}, Arms: []api.Arm{arm("A", variable("z"), "x")}}
		for place := range places(&self) {
			again := copied(self)
			*places(&again)[place] = again
			other := copied(self)
			*places(&other)[place] = other
			other.Kids[(place+1)%2].Name = "other"
			want(t, kind, rewrite.Alike(again, again), true)
			if place == (kind+1)%3 {
				want(t, kind, rewrite.Alike(rewrite.Apart(again), again), true)
			}
			want(t, kind, []bool{rewrite.Alike(again, other), rewrite.Alike(other, again), rewrite.Alike(again, self)}, []bool{false, false, false})
		}
	}
}

// TestCircle has circles of terms; one goes round several times while the other one does once.
func TestCircle(t *testing.T) {
	circle := func(size int, last string) api.Term {
		links := make([]api.Term, size)
		for n := range links {
			links[n] = pair(variable("x"), api.Term{})
		}
		links[size-1].Kids[0].Name = last
		for n := range links {
			links[n].Kids[1] = links[(n+1)%size]
		}
		return links[0]
	}
	want(t, "the same", rewrite.Alike(circle(300, "y"), circle(300, "y")), true)
	want(t, "several times", rewrite.Alike(circle(10, "x"), circle(7, "x")), true)
	want(t, "not the same", rewrite.Alike(circle(300, "y"), circle(300, "x")), false)
	want(t, "not as large", rewrite.Alike(circle(300, "y"), circle(299, "y")), false)
	rewrite.Apart(circle(300, "y"))
}

// TestDeep has each kind within itself, in each place, so often that nobody writes it.
func TestDeep(t *testing.T) {
	forms := []api.Term{
		fun("y", api.Term{}), app(api.Term{}, api.Term{}), let("y", api.Term{}, api.Term{}), rec("y", "z", api.Term{}, api.Term{}), pair(api.Term{}, api.Term{}),
		{Kind: api.TermIf, Kids: make([]api.Term, 3)}, {Kind: api.TermDo, Kids: make([]api.Term, 1)}, match(api.Term{}, arm("A", api.Term{}, "y")),
		{Kind: api.TermHandle, Kids: make([]api.Term, 1), Arms: []api.Arm{arm("return", api.Term{}, "y"), arm("ask", api.Term{}, "y", "z")}},
	}
	for _, form := range forms {
		for place := range places(&form) {
			deep := func(name string) api.Term { return fun("x", around(form, place, variable(name))) }
			apart := rewrite.Apart(deep("x"))
			want(t, form.Kind, inmost(apart, place), "x'1")
			want(t, form.Kind, rewrite.Alike(apart, deep("x")), true)
			want(t, form.Kind, rewrite.Alike(apart, deep("none")), false)
			want(t, form.Kind, inmost(rewrite.Apart(deep("none")), place), "none")
		}
	}
}

// around is a form around a term in one of its places, thousands of times.
func around(form api.Term, place int, term api.Term) api.Term {
	for range 10000 {
		next := copied(form)
		for _, at := range places(&next) {
			*at = api.Term{Kind: api.TermUnit}
		}
		*places(&next)[place] = term
		term = next
	}
	return term
}

// inmost is the name of what stands inmost in a function, always in the same place.
func inmost(f api.Term, place int) string {
	t := f.Kids[0]
	for len(t.Kids)+len(t.Arms) > 0 {
		t = *places(&t)[place]
	}
	return t.Name
}

// TestVeryDeep is much deeper than a stack of calls may be.
func TestVeryDeep(t *testing.T) {
	chain := func(name string) api.Term {
		term := variable(name)
		for range 700000 {
			term = fun("x", term)
		}
		return term
	}
	term := chain("x")
	apart := rewrite.Apart(term)
	want(t, "alike", []bool{rewrite.Alike(term, apart), rewrite.Alike(term, chain("y"))}, []bool{true, false})
	for len(apart.Kids) > 0 {
		apart = apart.Kids[0]
	}
	want(t, "inmost", apart.Name, "x'700000")
}

// TestDeepNames has very many names bound one within the other, all of them used inmost.
func TestDeepNames(t *testing.T) {
	const deep = 2000
	chain := func(first string) api.Term {
		kids := []api.Term{variable("free")}
		for n := range deep {
			kids = append(kids, variable(fmt.Sprintf("%s%d", first, n)))
		}
		term := api.Term{Kind: api.TermCon, Name: "C", Kids: kids}
		for n := range deep {
			term = let(fmt.Sprintf("%s%d", first, n), variable("free"), term)
		}
		return term
	}
	x, y := chain("x"), chain("y")
	want(t, "alike", rewrite.Alike(x, y), true)
	apart := rewrite.Apart(x)
	want(t, "apart", rewrite.Alike(apart, y), true)
	for apart.Kind == api.TermLet {
		apart = apart.Kids[1]
	}
	want(t, "the first one", apart.Kids[1].Name, fmt.Sprintf("x0'%d", deep))
	want(t, "the last one", apart.Kids[deep].Name, fmt.Sprintf("x%d'1", deep-1))
	want(t, "free", apart.Kids[0].Name, "free")
}

// TestWide has a term with very many kids, and an arm with very many names.
func TestWide(t *testing.T) {
	const wide = 200000
	form := func(first string) (api.Term, []api.Term) {
		list, kids := make([]string, wide), make([]api.Term, wide)
		for n := range wide {
			list[n] = fmt.Sprintf("%s%d", first, n)
			kids[n] = variable(list[n])
		}
		return match(variable("a"), arm("A", api.Term{Kind: api.TermCon, Name: "C", Kids: kids}, list...)), kids
	}
	x, kids := form("x")
	y, _ := form("y")
	want(t, "alike", rewrite.Alike(x, y), true)
	apart := rewrite.Apart(x)
	want(t, "the last name", apart.Arms[0].Vars[wide-1], fmt.Sprintf("x%d'%d", wide-1, wide))
	want(t, "the last kid", apart.Arms[0].Body.Kids[wide-1].Name, fmt.Sprintf("x%d'%d", wide-1, wide))
	kids[wide-1], kids[0] = kids[0], kids[wide-1]
	want(t, "not alike", rewrite.Alike(x, y), false)
	want(t, "not alike", rewrite.Alike(apart, x), false)
}

// TestLarge has very many pairs, none of them in two places.
func TestLarge(t *testing.T) {
	for _, deep := range []int{15, 16, 17} {
		x, y := full(deep, "x"), full(deep, "y")
		want(t, deep, rewrite.Alike(fun("x", x), fun("y", y)), true)
		want(t, deep, rewrite.Alike(fun("x", rewrite.Apart(x)), fun("y", rewrite.Apart(y))), true)
		want(t, deep, rewrite.Alike(x, y), false)
		for _, side := range []int{0, 1} {
			spoilt := full(deep, "y")
			last := &spoilt
			for len(last.Kids) > 0 {
				last = &last.Kids[side%len(last.Kids)]
			}
			last.Name = "z"
			want(t, deep, rewrite.Alike(fun("x", x), fun("y", spoilt)), false)
		}
	}
}

// full has a term in each place so deep down, each with lists of its own.
func full(deep int, name string) api.Term {
	if deep == 1 {
		return fun("f", variable(name))
	}
	return pair(full(deep-1, name), full(deep-1, name))
}
