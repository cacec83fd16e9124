package resolve_test

import (
	"math/rand"
	"slices"
	"strconv"
	"strings"
	"testing"

	"framewise/api"
	"framewise/parser"
	"framewise/resolve"
	"framewise/term"
)

func parse(texts ...string) []api.Module {
	var l []api.Module
	for _, text := range texts {
		m, at, e := parser.Parse(text)
		if e != api.OK {
			panic(text + strconv.Itoa(at))
		}
		l = append(l, m)
	}
	return l
}

func names(p api.Program) string {
	var l []string
	for _, d := range p.Defs {
		l = append(l, d.Name)
	}
	return strings.Join(l, " ")
}

func TestResolve(t *testing.T) { // P29.1
	b := "module b export g\ndef g(x) = x\ndef h(x) = g(x)"
	for i, c := range []struct {
		texts []string
		want  string
		at    resolve.Fault
		e     api.Errno
	}{
		{[]string{"module a import b export f def f(x) = b.g(x)", b}, "b.g a.f b.h", resolve.Fault{}, api.OK},
		{nil, "", resolve.Fault{}, api.OK},
		{[]string{"module a def z(x) = y(x) def y(x) = fold(b, 0, scan(add, x)) def b(x, y) = add(x, y)"}, "a.b a.y a.z", resolve.Fault{}, api.OK},
		{[]string{"module a def f(x: [n, m+1]int) = take[n](x)"}, "a.f", resolve.Fault{}, api.OK},
		{[]string{"module b", "module a import a", "module a import a"}, "", resolve.Fault{Module: "a"}, api.ErrExist},
		{[]string{"module b\ndef f(add) = 1", "module c import c"}, "", resolve.Fault{Module: "b", Line: 2}, api.ErrExist},
		{[]string{"module b", "module a", "module b import x"}, "", resolve.Fault{Module: "b"}, api.ErrExist},
		{[]string{"module b import c", "module a import b", "module c import x"}, "", resolve.Fault{Module: "c"}, api.ErrName},
		{[]string{"module a import b", "module b import c", "module c import b"}, "", resolve.Fault{Module: "b"}, api.ErrCycle},
		{[]string{"module a import b\ndef f() = x", "module b import c", "module c import b"}, "", resolve.Fault{Module: "b"}, api.ErrCycle},
		{[]string{"module a\ndef f(x) =\nx + y"}, "", resolve.Fault{Module: "a", Line: 3}, api.ErrName},
		{[]string{"module a\ndef f(x) =\n(let y = y\n in y)"}, "", resolve.Fault{Module: "a", Line: 3}, api.ErrName},
		{[]string{"module a\ndef f(x) = (let y = x in y) +\ny"}, "", resolve.Fault{Module: "a", Line: 3}, api.ErrName},
		{[]string{"module a\ndef f(x) = g(x)"}, "", resolve.Fault{Module: "a", Line: 2}, api.ErrName},
		{[]string{"module a\ndef f(x) = b.g(x)", b}, "", resolve.Fault{Module: "a", Line: 2}, api.ErrName},
		{[]string{"module a import b\ndef f(x) = b.h(x)", b}, "", resolve.Fault{Module: "a", Line: 2}, api.ErrName},
		{[]string{"module a\ndef f(x) = a.f(x)"}, "", resolve.Fault{Module: "a", Line: 2}, api.ErrName},
		{[]string{"module a\ndef f(x: [n+1]int) =\nsize[n]"}, "", resolve.Fault{Module: "a", Line: 3}, api.ErrName},
		{[]string{"module a\ndef f(x: [n]int): [m]int =\ntake[n-m](x)"}, "", resolve.Fault{Module: "a", Line: 3}, api.ErrName},
		{[]string{"module a\ndef f(x: [2n]int) =\nsize[n]"}, "", resolve.Fault{Module: "a", Line: 3}, api.ErrName},
		{[]string{"module a\ndef f(x: [n..]int) =\nsize[n]"}, "", resolve.Fault{Module: "a", Line: 3}, api.ErrName},
		{[]string{"module a\ndef g(x) = f(x)\ndef f(x) = g(x)"}, "", resolve.Fault{Module: "a", Line: 3}, api.ErrCycle},
		{[]string{"module a\ndef a(x) = g(x)\ndef g(x) = g(x)"}, "", resolve.Fault{Module: "a", Line: 3}, api.ErrCycle},
		{[]string{"module a\ndef a(x) = a(x)\ndef g(x) = y"}, "", resolve.Fault{Module: "a", Line: 3}, api.ErrName},
		{slices.Repeat([]string{"module a import a"}, 21), "", resolve.Fault{}, api.ErrLimit},
		{[]string{"module a" + many(30), "module b" + many(31)}, "", resolve.Fault{}, api.ErrLimit},
	} {
		l := parse(c.texts...)
		p, at, e := resolve.Resolve(l)
		if names(p) != c.want || at != c.at || e != c.e || len(p.Schemes) != 0 {
			t.Errorf("%d: %s %v %d", i, names(p), at, e)
		}
		slices.Reverse(l)
		if q, again, f := resolve.Resolve(l); names(q) != c.want || again != at || f != e {
			t.Errorf("%d in the opposite order: %v %d", i, again, f)
		}
		if e == api.OK && !resolve.Valid(p) {
			t.Errorf("%d is not valid", i)
		}
	}
	if p, _, e := resolve.Resolve(parse("module a"+many(30), "module b"+many(30))); len(p.Defs) != 60 || e != api.OK {
		t.Error("60 definitions")
	}
	bad := parse("module c", "module b", "module a")
	bad[0].Imports, bad[1].Imports = []string{"X"}, []string{"Y"}
	if _, at, e := resolve.Resolve(bad); at != (resolve.Fault{Module: "b"}) || e != api.ErrArg {
		t.Errorf("%v %d", at, e)
	}
	p, _, _ := resolve.Resolve(parse("module a import b def f(x) = add(g(x), b.g(x)) def g(x) = x", b))
	if got := term.Calls(p.Defs[2].Body); !slices.Equal(got, []string{"a.g", "add", "b.g"}) {
		t.Errorf("%v", got)
	}
}

// many returns some definitions.
func many(n int) string {
	s := ""
	for i := range n {
		s += " def f" + strconv.Itoa(i) + "() = 1"
	}
	return s
}

func TestValid(t *testing.T) { // P29.1
	good := func() api.Program {
		p, _, _ := resolve.Resolve(parse("module a def f(x: [n]int) = take[n](x) def g(y) = let z = y in f(z)"))
		return p
	}
	if !resolve.Valid(good()) || !resolve.Valid(api.Program{}) {
		t.Error("valid programs")
	}
	for i, f := range []func(*api.Program){
		func(p *api.Program) { p.Defs[0].Name = "f" }, func(p *api.Program) { p.Defs[1].Name = "a.f" }, func(p *api.Program) { slices.Reverse(p.Defs) }, func(p *api.Program) { p.Schemes = make([]api.Scheme, 3) }, func(p *api.Program) { p.Defs[1].Params = append(p.Defs[1].Params, p.Defs[1].Params...) }, func(p *api.Program) { p.Defs[1].Params[0].Name = "add" }, func(p *api.Program) { p.Defs[1].Params[0].Name = "Y" }, func(p *api.Program) { p.Defs[1].Body.Name = "take" }, func(p *api.Program) { p.Defs[1].Body.Name = "w" }, func(p *api.Program) { p.Defs[1].Body.Kids[1].Name = "f" }, func(p *api.Program) { p.Defs[1].Body.Kids[1].Name = "a.g" }, func(p *api.Program) { p.Defs[0].Params[0].Type.Shape.Dims[0].Const = 1 }, func(p *api.Program) { p.Defs[0].Body.Kind = 0 }, func(p *api.Program) { p.Defs[0].Params[0].Given = false },
	} {
		p := good()
		if f(&p); resolve.Valid(p) {
			t.Errorf("%d", i)
		}
		if _, ok := resolve.Find(p, "a.g"); ok || resolve.Deps(p, "a.g") != nil || resolve.Closure(p, "a.g") != nil {
			t.Errorf("%d: names", i)
		}
	}
	p := good()
	p.Schemes = make([]api.Scheme, 2)
	if !resolve.Valid(p) {
		t.Error("which schemes does not matter")
	}
	p.Defs[0].Name = "b.add"
	p.Defs[1].Body.Kids[1].Name = "b.add"
	if !resolve.Valid(p) {
		t.Error("the name of a primitive in a module")
	}
}

func TestNames(t *testing.T) { // P29.1, P29.5
	p, _, _ := resolve.Resolve(parse("module a def f(x) = x def g(x) = f(x) + f(x) def h(x) = g(x) def k(x) = h(f(x))"))
	if i, ok := resolve.Find(p, "a.h"); i != 2 || !ok {
		t.Errorf("%d", i)
	}
	if i, ok := resolve.Find(p, "h"); i != 0 || ok {
		t.Errorf("%d", i)
	}
	if got := resolve.Deps(p, "a.k"); !slices.Equal(got, []string{"a.f", "a.h"}) {
		t.Errorf("%v", got)
	}
	if got := resolve.Closure(p, "a.k"); !slices.Equal(got, []string{"a.f", "a.g", "a.h"}) {
		t.Errorf("%v", got)
	}
	if resolve.Closure(p, "a.f") != nil || resolve.Closure(p, "a.x") != nil || resolve.Deps(p, "a.x") != nil {
		t.Error("nothing")
	}
	for s, want := range map[string][2]string{"a.f": {"a", "f"}, "a": {}, "a.f.g": {}, "a.in": {}, ".f": {}, "": {}} {
		if m, n, ok := resolve.Split(s); m != want[0] || n != want[1] || ok != (n != "") {
			t.Errorf("%q: %q %q", s, m, n)
		}
	}
}

func TestOrder(t *testing.T) { // P29.2, P29.3, P29.4, P29.5
	r := rand.New(rand.NewSource(1))
	for range 200 {
		var texts []string
		var defs []string
		for i := range 3 {
			m := string(rune('a' + i))
			text := "module " + m
			for j := range i {
				text += " import " + string(rune('a'+j))
			}
			text += " export f0, f1, f2"
			for j := range 3 {
				body := "x"
				for k := range 2 {
					if r.Intn(2) == 0 && i > 0 {
						body = string(rune('a'+r.Intn(i))) + ".f" + strconv.Itoa(r.Intn(3)) + "(" + body + ")"
					} else if j > 0 && k == 0 {
						body = "f" + strconv.Itoa(r.Intn(j)) + "(" + body + ")"
					}
				}
				text += " def f" + strconv.Itoa(j) + "(x) = " + body
				defs = append(defs, m+".f"+strconv.Itoa(j))
			}
			texts = append(texts, text)
		}
		l := parse(texts...)
		p, _, e := resolve.Resolve(l)
		if e != api.OK || len(p.Defs) != 9 || !resolve.Valid(p) {
			t.Fatalf("%v: %d", texts, e)
		}
		for i := range l {
			slices.Reverse(l[i].Defs)
		}
		slices.Reverse(l)
		q, _, _ := resolve.Resolve(append(l, parse("module z import a def y(x) = a.f1(x)")...))
		var rest []api.Def
		for _, d := range q.Defs {
			if d.Name != "z.y" {
				rest = append(rest, d)
			}
		}
		for i, d := range p.Defs {
			if d.Name != rest[i].Name || !term.Equal(d.Body, rest[i].Body) {
				t.Fatalf("%s, then %s", names(p), names(q))
			}
			reach := map[string]bool{}
			for again := true; again; {
				again = false
				for _, name := range append([]string{d.Name}, keys(reach)...) {
					for _, c := range resolve.Deps(p, name) {
						again = again || !reach[c]
						reach[c] = true
					}
				}
			}
			if got := resolve.Closure(p, d.Name); !slices.Equal(got, keys(reach)) || slices.Contains(got, d.Name) {
				t.Fatalf("%s: %v", d.Name, got)
			}
		}
	}
}

func keys(m map[string]bool) []string {
	var l []string
	for k := range m {
		l = append(l, k)
	}
	slices.Sort(l)
	return l
}
