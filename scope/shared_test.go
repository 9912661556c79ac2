package scope_test

import (
	"strconv"
	"testing"

	"brocade/api"
	"brocade/scope"
)

func variable(at int, name string) api.Term {
	return api.Term{Kind: api.TermVar, At: at, Name: name}
}

func fun(name string, body api.Term) api.Term {
	return api.Term{Kind: api.TermFun, Name: name, Kids: []api.Term{body}}
}

func app(f, a api.Term) api.Term { return api.Term{Kind: api.TermApp, Kids: []api.Term{f, a}} }

func let(name string, is, in api.Term) api.Term {
	return api.Term{Kind: api.TermLet, Name: name, Kids: []api.Term{is, in}}
}

// twice has the same term two times, so many times over.
func twice(inmost api.Term, deep int) api.Term {
	for range deep {
		inmost = app(inmost, inmost)
	}
	return inmost
}

// TestShared has terms that stand within each other more often than anyone could count.
func TestShared(t *testing.T) {
	x, same := variable(1, "x"), func(name string) func(api.Term) api.Term {
		return func(in api.Term) api.Term { return let(name, in, in) }
	}
	for _, deep := range []int{1, 2, 10, 200, 2000} {
		p := api.Program{Body: twice(x, deep)}
		wantCheck(t, deep, p, 1, api.ErrScope)
		p.Body = fun("x", p.Body)
		wantCheck(t, deep, p, 0, api.OK)
		p.Body = app(p.Body, variable(2, "y"))
		wantCheck(t, deep, p, 2, api.ErrScope)
		p.Body = app(fun("x", twice(x, deep)), twice(x, deep))
		wantCheck(t, deep, p, 1, api.ErrScope)
		shared := twice(app(variable(3, "y"), x), deep)
		p.Body = fun("y", app(fun("x", shared), shared))
		wantCheck(t, deep, p, 1, api.ErrScope)
		p.Body = fun("x", app(fun("y", shared), shared))
		wantCheck(t, deep, p, 3, api.ErrScope)
		p.Body = fun("x", app(fun("y", shared), fun("y", shared)))
		wantCheck(t, deep, p, 0, api.OK)
		p.Body = app(fun("x", fun("y", shared)), shared)
		wantCheck(t, deep, p, 3, api.ErrScope)
		in := x
		for n := range deep {
			in = same("x" + strconv.Itoa(n))(in)
		}
		p.Body = fun("x", in)
		wantCheck(t, deep, p, 0, api.OK)
		p.Body = app(p.Body, in)
		wantCheck(t, deep, p, 1, api.ErrScope)
	}
}

// TestSharedUnder has the same term once below all its names, and once below all but one.
func TestSharedUnder(t *testing.T) {
	const many = 60
	all := variable(1, "x0")
	for n := 1; n < many; n++ {
		all = app(all, variable(1+n, "x"+strconv.Itoa(n)))
	}
	under := func(missing int) api.Term {
		around := all
		for n := range many {
			if n != missing {
				around = fun("x"+strconv.Itoa(n), around)
			}
		}
		return around
	}
	wantCheck(t, "all and all", api.Program{Body: app(under(-1), under(-1))}, 0, api.OK)
	for missing := range many {
		both := app(under(-1), under(missing))
		wantCheck(t, missing, api.Program{Body: both}, 1+missing, api.ErrScope)
		wantCheck(t, missing, api.Program{Body: fun("x"+strconv.Itoa(missing), both)}, 0, api.OK)
		wantCheck(t, missing, api.Program{Body: fun("y", both)}, 1+missing, api.ErrScope)
	}
}

// web makes up terms that have lists together, and parts of lists; none stands within itself.
func (d *dice) web(count int) []api.Term {
	names := []string{"x", "y", "z", "_"}
	all := make([]api.Term, 0, count)
	part := func(count int) []api.Term {
		from := d.under(len(all) - count + 1)
		return all[from : from+count]
	}
	for len(all) < cap(all) {
		t := api.Term{Kind: api.TermVar, Name: pick(d, names)}
		if len(all) >= 3 {
			switch d.under(7) {
			case 0:
				t = api.Term{Kind: api.TermFun, Name: pick(d, names), Kids: part(1)}
			case 1:
				t = api.Term{Kind: api.TermApp, Kids: part(2)}
			case 2:
				t = api.Term{Kind: api.TermLet, Name: pick(d, names), Kids: part(2)}
			case 3:
				t = api.Term{Kind: api.TermRec, Name: pick(d, names), Param: pick(d, names), Kids: part(2)}
			case 4:
				t = api.Term{Kind: api.TermIf, Kids: part(3)}
			case 5:
				t = api.Term{Kind: api.TermHandle, Name: "F", Kids: part(1), Arms: []api.Arm{way(part(1)[0], "return", pick(d, names))}}
			}
		}
		if t.Kind == api.TermVar && (t.Name == "_" || d.under(2) == 0) {
			t = api.Term{Kind: api.TermUnit}
		}
		t.At = 1 + len(all)
		all = append(all, t)
	}
	return all
}

// TestWebs holds what Check answers of made up webs against their terms told apart.
func TestWebs(t *testing.T) {
	luck := dice(5)
	p := read(t, declarations+"1")
	fine, wrong := 0, 0
	for range 20000 {
		all := luck.web(4 + luck.under(11))
		p.Body = all[len(all)-1]
		for range luck.under(4) {
			p.Body = api.Term{Kind: api.TermFun, At: 99, Name: pick(&luck, []string{"x", "y", "z"}), Kids: []api.Term{p.Body}}
		}
		if count(p.Body) > 2000 {
			continue
		}
		wantSlow(t, p)
		if _, err := scope.Check(p); err == api.OK {
			fine++
		} else {
			wrong++
		}
	}
	if fine < 3000 || wrong < 3000 {
		t.Errorf("%d webs were fine, %d wrong", fine, wrong)
	}
}

// count is how many terms a term is, told apart; 3000 of more than that.
func count(t api.Term) int {
	sum := 1
	for _, place := range places(&t) {
		if sum < 3000 {
			sum += count(*place)
		}
	}
	return min(sum, 3000)
}

// TestWithinItself: of terms that stand within themselves all calls end; what is wrong with them is told where they end.
func TestWithinItself(t *testing.T) {
	p := read(t, declarations+"1")
	for i := range ordered() {
		for place := range places(&ordered()[i]) {
			self := ordered()[i]
			for _, at := range places(&self) {
				*at = api.Term{Kind: api.TermUnit}
			}
			self.At = 7
			*places(&self)[place] = self
			p.Body = self
			wantCheck(t, self.Kind, p, 0, api.OK)
			p.Body = app(self, variable(3, "y"))
			wantCheck(t, self.Kind, p, 3, api.ErrScope)
			p.Body = app(self, self)
			wantCheck(t, self.Kind, p, 0, api.OK)
			for other := place + 1; other < len(places(&self)); other++ {
				*places(&self)[other] = variable(5, "free")
				p.Body = self
				wantCheck(t, self.Kind, p, 5, api.ErrScope)
			}
		}
	}
	links := make([]api.Term, 1000)
	for i := range links {
		links[i] = app(variable(i, "x"), api.Term{})
	}
	for i := range links {
		links[i].Kids[1] = links[(i+1)%len(links)]
	}
	p.Body = fun("x", links[0])
	wantCheck(t, "circle", p, 0, api.OK)
	p.Body = app(p.Body, links[7])
	wantCheck(t, "circle", p, 7, api.ErrScope)
}

// TestDeep has each kind within itself, in each place, so often that nobody writes it.
func TestDeep(t *testing.T) {
	p := read(t, declarations+"1")
	for i := range ordered() {
		for place := range places(&ordered()[i]) {
			for _, inmost := range []api.Term{{Kind: api.TermUnit}, variable(8, "free")} {
				term := inmost
				for range 5000 {
					around := ordered()[i]
					for _, at := range places(&around) {
						*at = api.Term{Kind: api.TermUnit}
					}
					*places(&around)[place] = term
					term = around
				}
				p.Body = term
				at, err := 0, api.OK
				if inmost.Kind == api.TermVar {
					at, err = 8, api.ErrScope
				}
				wantCheck(t, "deep", p, at, err)
			}
		}
	}
}

// TestDeepNames has thousands of names bound one within the other, all of them used inmost.
func TestDeepNames(t *testing.T) {
	const deep = 2000
	in := variable(0, "x0")
	for n := 1; n < deep; n++ {
		in = app(in, variable(n, "x"+strconv.Itoa(n)))
	}
	for n := range deep {
		in = let("x"+strconv.Itoa(n), api.Term{Kind: api.TermUnit}, in)
	}
	wantCheck(t, "all", api.Program{Body: in}, 0, api.OK)
	wantCheck(t, "but one", api.Program{Body: let("y", in, in.Kids[1])}, deep-1, api.ErrScope)
}

// TestWide has a term with very many kids, and an arm with very many names.
func TestWide(t *testing.T) {
	const wide = 200000
	whole := api.Type{Kind: api.TypInt}
	con := api.ConSig{Name: "C", Fields: make([]api.Type, wide)}
	names, kids := make([]string, wide), make([]api.Term, wide)
	for i := range wide {
		con.Fields[i], names[i] = whole, "x"+strconv.Itoa(i)
		kids[i] = variable(i, names[i])
	}
	p := api.Program{Datas: []api.Data{{Name: "D", Cons: []api.ConSig{con}}}}
	term := api.Term{Kind: api.TermCon, Name: "C", Kids: kids}
	p.Body = api.Term{Kind: api.TermMatch, At: 3, Kids: []api.Term{{Kind: api.TermUnit}}, Arms: []api.Arm{way(term, "C", names...)}}
	wantCheck(t, "wide", p, 0, api.OK)
	kids[wide-1].Name = "y"
	wantCheck(t, "wide", p, wide-1, api.ErrScope)
	names[wide-1] = "y"
	wantCheck(t, "wide", p, 0, api.OK)
	names[wide-1] = "x0"
	wantCheck(t, "wide", p, 3, api.ErrScope)
}
