package code_test

import (
	"fmt"
	"math"
	"slices"
	"strings"
	"testing"

	"brocade/api"
	"brocade/code"
)

// twice has the same code two times, so many times over.
func twice(inmost api.Code, deep int, both func(a, b api.Code) api.Code) api.Code {
	for range deep {
		inmost = both(inmost, inmost)
	}
	return inmost
}

// in is two pieces of code, one behind the other, with a name that nobody uses.
func in(a, b api.Code) api.Code { return let("none", a, b) }

// times is 2 to some power, times something, less another thing; the greatest number, if it is more than that.
func times(power, count, less int) int {
	if power > 62 || count > math.MaxInt>>power {
		return math.MaxInt
	}
	return count<<power - less
}

// TestShared has code that stands within itself more often than anyone could go there.
func TestShared(t *testing.T) {
	x, y := variable("x"), variable("y")
	under := func(a, b api.Code) api.Code { return fun("x", match(y, arm("A", a, "z"), arm("B", b, "y"))) }
	ways := func(a, b api.Code) api.Code { return rec("x", "k", a, bind("y", b, a)) }
	for _, deep := range []int{1, 2, 10, 17, 30, 58, 59, 60, 61, 62, 63, 64, 200, 2000} {
		wantShared := func(what string, c api.Code, size int, free ...string) {
			t.Helper()
			want(t, []any{deep, what}, []any{code.Right(c), code.Size(c), append([]string{}, code.Free(c)...)}, []any{true, size, append([]string{}, free...)})
		}
		wantShared("free", twice(x, deep, in), times(deep, 2, 1), "x")
		wantShared("bound", fun("x", twice(x, deep, in)), times(deep, 2, 0), []string{}...)
		wantShared("another", fun("y", twice(x, deep, in)), times(deep, 2, 0), "x")
		wantShared("nobody", fun("_", twice(variable("_"), deep, in)), times(deep, 2, 0), "_")
		wantShared("both", twice(call(x, y), deep, in), times(deep, 4, 1), "x", "y")
		wantShared("under", twice(call(x, y), deep, under), times(deep, 6, 3), "y")
		wantShared("under more", fun("z", twice(call(x, variable("z")), deep, under)), times(deep, 6, 2), "y")
		want(t, deep, code.Free(twice(call(x, y), deep, ways)), []string{"y"})
		want(t, deep, len(code.Free(fun("y", twice(call(x, y), deep, ways)))), 0)
		shared := twice(call(x, y), deep, in)
		want(t, deep, code.Free(let("z", fun("x", shared), fun("y", fun("x", shared)))), []string{"y"})
		want(t, deep, len(code.Free(let("y", fun("x", fun("y", shared)), fun("x", shared)))), 0)
		wantShared("in two", let("z", fun("x", shared), fun("y", shared)), more(times(deep, 8, 2), 3), "x", "y")
		wantShared("in one", let("x", fun("x", shared), fun("y", shared)), more(times(deep, 8, 2), 3), "y")
		for _, wrong := range []api.Code{{}, variable(""), truth(2), call(shared, unit())} {
			wantWrong(t, deep, twice(wrong, deep, in))
			wantWrong(t, deep, in(shared, twice(wrong, deep, in)))
			wantWrong(t, deep, in(twice(wrong, deep, in), shared))
		}
	}
}

// more is a sum, or the greatest number.
func more(n, m int) int { return n + min(m, math.MaxInt-n) }

// TestSharedText has texts of shared code, and what would be too long a text.
func TestSharedText(t *testing.T) {
	for deep := range 12 {
		c := twice(fun("y", variable("x")), deep, func(a, b api.Code) api.Code { return con("C", fun("x", a), fun("y", b)) })
		wantRight(t, c, slowText(c), slowSize(c), slowFree(c)...)
	}
	for _, deep := range []int{29, 60, 2000} {
		text, err := code.Text(twice(unit(), deep, in))
		want(t, deep, []any{text, err}, []any{"", api.ErrLimit})
	}
	long := con("C")
	long.Kids = slices.Repeat([]api.Code{variable(strings.Repeat("x", 1<<20-1))}, 1<<11)
	text, err := code.Text(long)
	want(t, "long", []any{text, err, code.Right(long), code.Size(long)}, []any{"", api.ErrLimit, true, 1 + 1<<11})
}

// web makes up right code that has lists together, and parts of lists; none stands within itself.
func (d *dice) web(count int) api.Code {
	all := []api.Code{variable(d.name()), variable(d.name()), d.atom(0)}
	all = slices.Grow(all, count)
	part := func(count int) []api.Code {
		from := d.under(len(all) - count + 1)
		return all[from : from+count]
	}
	for range count {
		var c api.Code
		switch d.under(6) {
		case 0:
			c = fun(d.name(), unit())
			c.Kids = part(1)
		case 1:
			c = let(d.name(), unit(), unit())
			c.Kids = part(2)
		case 2:
			c = rec(d.name(), d.name(), unit(), unit())
			c.Kids = part(2)
		case 3:
			c = call(unit(), unit())
			c.Kids = all[:2]
		case 4:
			c = match(variable(d.name()), arm("A", part(1)[0], d.names(2)...), arm("B", part(1)[0]))
		case 5:
			c = prompt("E", unit(), arm("return", part(1)[0], d.name()), arm("get", part(1)[0], d.names(2)...), tail("put", part(1)[0], d.name()))
			c.Kids = part(1)
		}
		all = append(all, c)
	}
	return all[len(all)-1]
}

// TestWebs holds what is told of made-up webs against the slow ways.
func TestWebs(t *testing.T) {
	luck := dice(5)
	tried := 0
	for range 4000 {
		c := luck.web(1 + luck.under(14))
		if code.Size(c) > 2000 {
			continue
		}
		tried++
		wantRight(t, c, slowText(c), slowSize(c), slowFree(c)...)
		around := fun("x", let("y", c, bind("z", c, rec("k", "x", c, let("_", c, c)))))
		wantRight(t, around, slowText(around), slowSize(around), slowFree(around)...)
		wrong := let("x", c, call(c, let("x", unit(), c)))
		wantWrong(t, c, wrong)
	}
	if tried < 2000 {
		t.Errorf("%d webs", tried)
	}
}

// TestWithinItself: of code that stands within itself all calls end; none is right.
func TestWithinItself(t *testing.T) {
	for _, whole := range append(wholes(), fun("x", unit())) {
		for place := range places(&whole) {
			for _, between := range []func(api.Code) api.Code{func(c api.Code) api.Code { return c }, func(c api.Code) api.Code { return fun("x", let("y", unit(), c)) }} {
				c := copied(whole)
				*places(&c)[place] = between(c)
				wantWrong(t, c.Kind, c)
				wantWrong(t, c.Kind, fun("z", c))
				if size := code.Size(c); size < 1000 {
					t.Errorf("%d: size %d", c.Kind, size)
				}
			}
		}
	}
	self := api.Code{Kind: 99, Kids: make([]api.Code, 3), Arms: make([]api.CodeArm, 2)}
	for n := range places(&self) {
		*places(&self)[n] = self
	}
	wantWrong(t, "self", self)
}

// TestCircle has a large circle, and a large ring that is no circle.
func TestCircle(t *testing.T) {
	links := make([]api.Code, 3000)
	for n := range links {
		links[n] = fun("x", variable(fmt.Sprintf("x%04d", n)))
	}
	for n := range links[1:] {
		links[n] = let("y", links[n], unit())
		links[n].Kids = []api.Code{links[n].Kids[0], {}}
	}
	for n := len(links) - 2; n >= 0; n-- {
		links[n].Kids[1] = links[n+1]
	}
	want(t, "chain", []any{code.Right(links[0]), len(code.Free(links[0]))}, []any{true, 3000})
	links[len(links)-1].Kids[0] = links[0]
	wantWrong(t, "circle", links[0])
	wantWrong(t, "circle", links[1000])
}

// deepest is each kind of code within itself, so often that nobody writes it, always in the same place.
func deepest(whole api.Code, place, deep int, inmost api.Code) api.Code {
	for range deep {
		c := copied(whole)
		*places(&c)[place] = inmost
		inmost = c
	}
	return inmost
}

// TestDeep has each kind deep within itself.
func TestDeep(t *testing.T) {
	deepened := 0
	for _, whole := range append(wholes(), fun("x", unit())) {
		for place := range places(&whole) {
			for _, at := range places(&whole) {
				*at = unit()
			}
			if !code.Right(deepest(whole, place, 2, unit())) {
				continue // an atom stands there
			}
			deepened++
			const deep = 5000
			c := deepest(whole, place, deep, variable("z"))
			text, err := code.Text(c)
			want(t, whole.Kind, []any{code.Right(c), err, code.Free(c), strings.Count(text, "z")}, []any{true, api.OK, []string{"z"}, 1})
			want(t, whole.Kind, code.Size(c), 1+deep*(slowSize(whole)-1))
			wantWrong(t, whole.Kind, deepest(whole, place, deep, variable("")))
			want(t, whole.Kind, len(code.Free(fun("z", c))), 0)
		}
	}
	want(t, "places", deepened, 15)
}

// TestVeryDeep is much deeper than a stack of calls may be.
func TestVeryDeep(t *testing.T) {
	const deep = 1000000
	c := variable("z")
	for range deep {
		c = fun("x", c)
	}
	text, err := code.Text(c)
	want(t, "deep", []any{code.Right(c), code.Free(c), code.Size(c), err}, []any{true, []string{"z"}, deep + 1, api.OK})
	if text != strings.Repeat("fun x { ", deep)+"z"+strings.Repeat(" }", deep) {
		t.Error("deep: another text")
	}
}

// TestWide has very many kids, arms and names.
func TestWide(t *testing.T) {
	const wide = 100000
	c := con("C")
	var list []string
	for n := range wide {
		list = append(list, fmt.Sprintf("x%06d", n))
		c.Kids = append(c.Kids, variable(list[n]))
	}
	wantRight(t, c, "con C "+strings.Join(list, " "), wide+1, list...)
	one := match(unit(), arm("A", c, list[1:]...))
	wantRight(t, one, "match unit | A "+strings.Join(list[1:], " ")+" { con C "+strings.Join(list, " ")+" }", wide+3, list[0])
	many := prompt("E", unit(), returns())
	for _, name := range list {
		many.Arms = append(many.Arms, arm(name, variable(name), "x", "k"))
	}
	want(t, "many", []any{code.Right(many), code.Size(many), code.Free(many)}, []any{true, wide + 3, list})
	many.Arms[wide].Vars = many.Arms[wide].Vars[:1]
	wantWrong(t, "the last arm", many)
	c.Kids[wide-1].Name = ""
	wantWrong(t, "the last kid", c)
}

// TestDeepNames has thousands of names bound one within the other, all of them used inmost.
func TestDeepNames(t *testing.T) {
	const deep = 2000
	c := con("C", variable("free"))
	for n := range deep {
		c.Kids = append(c.Kids, variable(fmt.Sprintf("x%d", n)))
	}
	for n := range deep {
		c = bind(fmt.Sprintf("x%d", n), variable(fmt.Sprintf("y%04d", n)), c)
	}
	free := code.Free(c)
	want(t, "free", []any{len(free), free[0], free[1], free[deep]}, []any{deep + 1, "free", "y0000", fmt.Sprintf("y%04d", deep-1)})
}
