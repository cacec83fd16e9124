package printer_test

import (
	"math/rand"
	"slices"
	"strings"
	"testing"

	"framewise/api"
	"framewise/linear"
	"framewise/parser"
	"framewise/printer"
	"framewise/term"
	"framewise/types"
)

func v(name string) api.Term { return api.Term{Kind: api.TermVar, Name: name} }

func lit(n int) api.Term { return api.Term{Kind: api.TermLit, Name: "int", Num: n} }

func call(name string, kids ...api.Term) api.Term {
	return api.Term{Kind: api.TermCall, Name: name, Kids: kids}
}

func typ(s string) api.Type {
	t, e := types.Parse(s)
	if e != api.OK {
		panic(s)
	}
	return t
}

func lin(s string) api.Linear {
	l, e := linear.Parse(s)
	if e != api.OK {
		panic(s)
	}
	return l
}

func change[T any](t T, f func(*T)) T { f(&t); return t }

func TestTerm(t *testing.T) { // P27.1
	let := api.Term{Kind: api.TermLet, Name: "a", Kids: []api.Term{lit(1), v("a")}}
	for want, x := range map[string]api.Term{
		"a - (b - -(5))":                      call("sub", v("a"), call("sub", v("b"), call("neg", lit(5)))),
		"(a + b) * -2":                        call("mul", call("add", v("a"), v("b")), lit(-2)),
		"--2":                                 call("neg", lit(-2)),
		"--(2)":                               call("neg", call("neg", lit(2))),
		"-true":                               call("neg", api.Term{Kind: api.TermLit, Name: "bool", Num: 1}),
		"!-x":                                 call("not", call("neg", v("x"))),
		"!5":                                  call("not", lit(5)),
		"-(0)":                                call("neg", lit(0)),
		"-(a + b)":                            call("neg", call("add", v("a"), v("b"))),
		"(a < b) < (c < d)":                   call("lt", call("lt", v("a"), v("b")), call("lt", v("c"), v("d"))),
		"a - b - c":                           call("sub", call("sub", v("a"), v("b")), v("c")),
		"a && (b || c)":                       call("and", v("a"), call("or", v("b"), v("c"))),
		"(let a = 1 in a) + (let a = 1 in a)": call("add", let, let),
		"let b = let a = 1 in a in f(let a = 1 in a)": {Kind: api.TermLet, Name: "b", Kids: []api.Term{let, call("f", let)}},
		"add(a)":                       call("add", v("a")),
		"neg(a, b)":                    call("neg", v("a"), v("b")),
		"add@(0, 1)(a, b)":             change(call("add", v("a"), v("b")), func(t *api.Term) { t.Ranks = []int{0, 1} }),
		"neg{3}(a)":                    change(call("neg", v("a")), func(t *api.Term) { t.Num = 3 }),
		"take[-k+n, 2](x)":             change(call("take", v("x")), func(t *api.Term) { t.Sizes = []api.Linear{lin("n-k"), lin("2")} }),
		"m.f[n]{3}@(1)([true, false])": change(call("m.f", api.Term{Kind: api.TermPack, Kids: []api.Term{{Kind: api.TermLit, Name: "bool", Num: 1}, {Kind: api.TermLit, Name: "bool"}}}), func(t *api.Term) { t.Sizes = []api.Linear{lin("n")}; t.Num = 3; t.Ranks = []int{1} }),
		"fold(add, 0, x)":              {Kind: api.TermFold, Name: "add", Kids: []api.Term{lit(0), v("x")}},
		"scan(m.g, x)":                 {Kind: api.TermScan, Name: "m.g", Kids: []api.Term{v("x")}},
		"size[2n-1]":                   {Kind: api.TermSize, Sizes: []api.Linear{lin("2n-1")}},
		"#b[2: 0 1]":                   {Kind: api.TermConst, Array: api.Array{Elem: "bool", Dims: []int{2}, Data: []int{0, 1}}},
		"f()":                          call("f"),
		"-2147483648 % a":              call("mod", lit(-2147483648), v("a")),
	} {
		s, e := printer.Term(x)
		if s != want || e != api.OK {
			t.Errorf("%s: %s %d", want, s, e)
		}
	}
	for i, x := range []api.Term{
		{}, v("X"), change(call("take", v("x")), func(t *api.Term) { t.Sizes = []api.Linear{lin("_1")} }), change(call("take", v("x")), func(t *api.Term) { t.Sizes = []api.Linear{lin("size")} }),
	} {
		if s, e := printer.Term(x); s != "" || e != api.ErrArg {
			t.Errorf("%d: %s %d", i, s, e)
		}
	}
	long := api.Term{Kind: api.TermConst, Array: api.Array{Elem: "int", Dims: []int{4096}, Data: slices.Repeat([]int{-1000}, 4096)}}
	if s, e := printer.Term(long); s != "" || e != api.ErrLimit {
		t.Errorf("%d", e)
	}
}

func TestDef(t *testing.T) { // P27.1
	d := api.Def{Name: "f", Line: -7, Params: []api.Param{{Name: "x"}, {Name: "y", Given: true, Type: typ("[r.., n]int")}}, Given: true, Result: typ("bool"), Body: v("x")}
	if s, e := printer.Def(d); s != "def f(x, y: [r.., n]int): bool = x" || e != api.OK {
		t.Errorf("%s %d", s, e)
	}
	with := func(f func(*api.Def)) api.Def {
		return change(d, func(d *api.Def) { d.Params = slices.Clone(d.Params); f(d) })
	}
	if s, e := printer.Def(with(func(d *api.Def) { d.Params = nil; d.Given = false; d.Result = api.Type{} })); s != "def f() = x" || e != api.OK {
		t.Errorf("%s %d", s, e)
	}
	for i, w := range []api.Def{
		with(func(d *api.Def) { d.Name = "m.f" }), with(func(d *api.Def) { d.Name = "in" }), with(func(d *api.Def) { d.Params[0].Name = "X" }), with(func(d *api.Def) { d.Params = slices.Repeat(d.Params, 5) }), with(func(d *api.Def) { d.Params[0].Type = typ("int") }), with(func(d *api.Def) { d.Params[1].Type = typ("[n]A") }), with(func(d *api.Def) { d.Params[1].Type = typ("[_1..]int") }), with(func(d *api.Def) { d.Params[1].Type = typ("[in..]int") }), with(func(d *api.Def) { d.Params[1].Type = typ("[_1]int") }), with(func(d *api.Def) { d.Params[1].Type = api.Type{} }), with(func(d *api.Def) { d.Result = typ("A") }), with(func(d *api.Def) { d.Given = false }), with(func(d *api.Def) { d.Body = api.Term{} }),
	} {
		m := api.Module{Name: "m", Defs: []api.Def{d, w}}
		_, e := printer.Def(w)
		if _, f := printer.Print(m); e != api.ErrArg || f != api.ErrArg {
			t.Errorf("%d: %d %d", i, e, f)
		}
	}
	m := api.Module{Name: "m", Imports: []string{"a", "b"}, Exports: []string{"f", "g"}, Defs: []api.Def{d, with(func(d *api.Def) { d.Name = "g" })}}
	want := "module m\nimport a, b\nexport f, g\ndef f(x, y: [r.., n]int): bool = x\ndef g(x, y: [r.., n]int): bool = x\n"
	if s, e := printer.Print(m); s != want || e != api.OK {
		t.Errorf("%s %d", s, e)
	}
	if s, e := printer.Print(api.Module{Name: "m"}); s != "module m\n" || e != api.OK {
		t.Errorf("%s %d", s, e)
	}
	for i, w := range []api.Module{
		{}, {Name: "def"}, change(m, func(m *api.Module) { m.Imports = []string{"a.b"} }), change(m, func(m *api.Module) { m.Exports = []string{""} }), change(m, func(m *api.Module) { m.Imports = slices.Repeat([]string{"a"}, 21) }), change(m, func(m *api.Module) { m.Exports = slices.Repeat([]string{"a"}, 61) }), change(m, func(m *api.Module) { m.Defs = slices.Repeat([]api.Def{d}, 61) }),
	} {
		if s, e := printer.Print(w); s != "" || e != api.ErrArg {
			t.Errorf("%d: %d", i, e)
		}
	}
	many := change(m, func(m *api.Module) {
		m.Defs = slices.Repeat([]api.Def{with(func(d *api.Def) {
			d.Body = api.Term{Kind: api.TermConst, Array: api.Array{Elem: "int", Dims: []int{400}, Data: make([]int, 400)}}
		})}, 30)
	})
	if _, e := printer.Print(many); e != api.ErrLimit {
		t.Errorf("%d", e)
	}
}

func random(r *rand.Rand, depth int) api.Term {
	kids := func(n int) []api.Term {
		var l []api.Term
		for range n {
			l = append(l, random(r, depth-1))
		}
		return l
	}
	if depth == 0 || r.Intn(8) == 0 {
		return []api.Term{v("x"), v("b"), lit(r.Intn(20) - 10), lit(5), {Kind: api.TermLit, Name: "bool", Num: r.Intn(2)}, {Kind: api.TermSize, Sizes: []api.Linear{lin("2n-m+1")}}, {Kind: api.TermConst, Array: api.Array{Elem: "int", Dims: []int{1}, Data: []int{-3}}}}[r.Intn(7)]
	}
	binary := strings.Fields("or and eq ne lt le gt ge add sub mul div mod")
	switch r.Intn(10) {
	case 0:
		return api.Term{Kind: api.TermLet, Name: "a", Kids: kids(2)}
	case 1, 2:
		return call([]string{"neg", "not"}[r.Intn(2)], kids(1)...)
	case 3:
		return []api.Term{{Kind: api.TermPack, Kids: kids(1 + r.Intn(2))}, {Kind: api.TermFold, Name: "m.f", Kids: kids(2)}, {Kind: api.TermScan, Name: "add", Kids: kids(1)}}[r.Intn(3)]
	case 4:
		return change(call([]string{"f", "m.g", "sub", "neg"}[r.Intn(4)], kids(1+r.Intn(3))...), func(t *api.Term) {
			if r.Intn(2) == 0 {
				t.Sizes = []api.Linear{lin("n-1"), lin("3")}[:1+r.Intn(2)]
			}
			t.Num = r.Intn(3)
			for range t.Kids {
				t.Ranks = append(t.Ranks, r.Intn(3))
			}
		})
	}
	return call(binary[r.Intn(len(binary))], kids(2)...)
}

func TestRoundTrip(t *testing.T) { // P27.2, P27.4, P27.5
	r := rand.New(rand.NewSource(1))
	for range 3000 {
		x := random(r, 4)
		s, e := printer.Term(x)
		if e != api.OK {
			t.Fatalf("%v: %d", x, e)
		}
		if y, at, e := parser.Expr(s); !term.Equal(x, y) || e != api.OK {
			t.Fatalf("%s: %d %d", s, at, e)
		}
		if strings.Contains(s, "  ") || strings.ContainsAny(s, "\t\n") || strings.TrimSpace(s) != s {
			t.Fatalf("%q", s)
		}
		// No pair of parentheses around an operand can be left out.
		for i := range s {
			if s[i] != '(' || i > 0 && (s[i-1] >= 'a' && s[i-1] <= 'z' || s[i-1] == ']' || s[i-1] == '}' || s[i-1] == '@' || s[i-1] == ')') {
				continue
			}
			depth, end := 0, i
			for ; end < len(s); end++ {
				depth += strings.Count(s[end:end+1], "(") - strings.Count(s[end:end+1], ")")
				if depth == 0 {
					break
				}
			}
			bare := s[:i] + s[i+1:end] + s[end+1:]
			if y, _, e := parser.Expr(bare); e == api.OK && term.Equal(x, y) {
				t.Fatalf("%s is the same as %s", s, bare)
			}
		}
	}
}

func TestFormat(t *testing.T) { // P27.2, P27.3
	text := "module  m // x\nimport a,b import c\nexport f def f(x,y:[n]int):int=\n  (x)+((1)) def g()=-  (5)"
	s, at, e := printer.Format(text)
	want := "module m\nimport a, b, c\nexport f\ndef f(x, y: [n]int): int = x + 1\ndef g() = -(5)\n"
	if s != want || at != 0 || e != api.OK {
		t.Errorf("%q %d %d", s, at, e)
	}
	if again, _, _ := printer.Format(s); again != s {
		t.Errorf("%q", again)
	}
	for i, c := range []struct {
		text string
		at   int
		e    api.Errno
	}{
		{"module m def", 12, api.ErrSyntax}, {"module m def f() = #[2: 1]", 9, api.ErrLimit}, {"module m $", 9, api.ErrSyntax},
	} {
		if s, at, e := printer.Format(c.text); s != "" || at != c.at || e != c.e {
			t.Errorf("%d: %d %d", i, at, e)
		}
	}
	// Operators get spaces, so the text becomes too long.
	name := strings.Repeat("a", 30)
	chain := strings.Repeat(name+"+", 38) + name
	long := "module m" + strings.Repeat(" def f(x)=["+chain+strings.Repeat(","+chain, 4)+"]", 3) + " def f(x)=" + chain + " def f(x)=[" + strings.Repeat(name+",", 15) + "x]"
	if _, _, e := parser.Parse(long); e != api.OK {
		t.Fatalf("%d bytes: %d", len(long), e)
	}
	if s, at, e := printer.Format(long); e != api.ErrLimit || s != "" || at != 0 {
		t.Errorf("%d %d", at, e)
	}
}
