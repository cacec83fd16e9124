package generate_test

import (
	"fmt"
	"slices"
	"strings"
	"testing"

	"framewise/api"
	"framewise/constraint"
	"framewise/generate"
	"framewise/linear"
	"framewise/parser"
	"framewise/resolve"
	"framewise/shape"
	"framewise/term"
	"framewise/types"
)

// program resolves the text of a module a, and gives the first definitions their schemes.
func program(text string, schemes ...string) api.Program {
	m, at, e := parser.Parse("module a " + text)
	if e != api.OK {
		panic(fmt.Sprint(text, at, e))
	}
	p, fault, e := resolve.Resolve([]api.Module{m})
	if e != api.OK {
		panic(fmt.Sprint(text, fault, e))
	}
	for _, s := range schemes {
		x, e := types.ParseScheme(s)
		if e != api.OK {
			panic(s)
		}
		p.Schemes = append(p.Schemes, x)
	}
	return p
}

func typ(t api.Type) string {
	s, e := types.Print(t)
	if e != api.OK {
		return "error"
	}
	return s
}

func typs(l []api.Type) string {
	var parts []string
	for _, t := range l {
		parts = append(parts, typ(t))
	}
	return strings.Join(parts, " ")
}

func show(s generate.System) string {
	out := typs(s.Params) + " -> " + typ(s.Result) + "\n"
	for _, c := range s.Cons {
		out += fmt.Sprint(c.Line) + ": "
		switch c.Kind {
		case api.ConsSame:
			out += typ(c.A) + " = " + typ(c.B)
		case api.ConsAgree:
			out += typs(c.Cells) + " -> " + typ(c.OutCell) + ": " + typs(c.Args) + " -> " + typ(c.Out)
		case api.ConsLeast:
			out += linear.Print(c.L)
		}
		out += "\n"
	}
	out += typs(s.Types) + "\n"
	for _, site := range s.Sites {
		out += fmt.Sprint(site.Node, " ", site.Cons)
		for _, b := range site.Inst {
			row, _ := shape.Print(b.Row)
			out += fmt.Sprint(" ", b.Var, "=", []string{"", linear.Print(b.Dim), row, b.Elem}[b.Kind])
		}
		out += "\n"
	}
	return out + fmt.Sprint(s.Next)
}

func TestGenerate(t *testing.T) { // P30.1
	for i, c := range []struct {
		p    api.Program
		next int
		want string
	}{
		{program("def f(x) =\nx + 1"), 1, `[_2..]E1000001 -> [_3..]int
2: int int -> int: [_2..]E1000001 int -> [_3..]int
[_3..]int [_2..]E1000001 int
0 0
4`},
		{program("def f(x: [n]int): [2]int = take[n-1](x)"), 5, `[n]int -> [_7..]E1000006
1: [_5]E1000006 -> [n-1]E1000006: [n]int -> [_7..]E1000006
1: n-1
1: _5-n+1
1: [_7..]E1000006 = [2]int
[_7..]E1000006 [n]int
0 0 n=_5 A=E1000006
8`},
		{program("def f(x: int) = let y = [x, 2] in let x = y in fold(eq, true, x)"), 1, `int -> [_5..]E1000003
1: E1000001 E1000001 -> [2]E1000001: int int -> [_2..]E1000001
1: bool = E1000003
1: E1000003 [_4]E1000003 -> E1000003: bool [_2..]E1000001 -> [_5..]E1000003
[_5..]E1000003 [_2..]E1000001 int int [_5..]E1000003 [_2..]E1000001 [_5..]E1000003 bool [_2..]E1000001
1 0 A=E1000001
6 2 n=_4 A=E1000003
6`},
		{program("def f(x) = scan(add, #[1 2: 3 4]) def g(y) = size[3] * f(y)", "([n1]A1) -> [n1, 2]int where n1-1"), 1, `[_2..]E1000001 -> [_6..]int
1: [_3]E1000004 -> [_3, 2]int: [_2..]E1000001 -> [_5..]int
1: _3-1
1: int int -> int: int [_5..]int -> [_6..]int
[_6..]int int [_5..]int [_2..]E1000001
0 2
2 0 n1=_3 A1=E1000004
7`},
		{program("def f(x, y) = x def g(z) = f(z, 1)", "([r1.., n1]A1, [r2..]int) -> [r2.., n1]A1 where n1-2"), 1, `[_2..]E1000001 -> [_6.., _4]E1000005
1: [_2..]E1000001 = [_3.., _4]E1000005
1: int = [_6..]int
1: _4-2
[_6.., _4]E1000005 [_2..]E1000001 int
0 -1 n1=_4 r1=[_3..] r2=[_6..] A1=E1000005
7`},
		{program("def f(x, y) = x def g(z) = f@(3, 1)(z, 1)", "([r1.., n1]A1, [r2..]int) -> [r2.., n1]A1"), 1, `[_2..]E1000001 -> [_8..]E1000007
1: [_3, _4, _6]E1000007 [_5]int -> [_5, _6]E1000007: [_2..]E1000001 int -> [_8..]E1000007
[_8..]E1000007 [_2..]E1000001 int
0 0 n1=_6 r1=[_3, _4] r2=[_5] A1=E1000007
9`},
		{program("def f(x) = scan(max, x)"), 7, `[_8..]E1000007 -> [_10..]int
1: int = int
1: int = int
1: [_9]int -> [_9]int: [_8..]E1000007 -> [_10..]int
[_10..]int [_8..]E1000007
0 2 n=_9
11`},
		{program("def f(x) = true"), 1, "[_2..]E1000001 -> bool\nbool\n3"},
	} {
		s, line, e := generate.Generate(c.p, c.next)
		if show(s) != c.want || line != 0 || e != api.OK {
			t.Errorf("%d: %d %d\n%s", i, line, e, show(s))
		}
		if !constraint.Valid(s.Cons) {
			t.Errorf("%d: constraints", i)
		}
	}
}

func TestErrors(t *testing.T) { // P30.1
	f := "def f(x) = x def g(x, y) ="
	rows := "def f(x, y) = x def g(x, y) ="
	for i, c := range []struct {
		p    api.Program
		next int
		line int
		e    api.Errno
	}{
		{program("def f(x) = 1"), 0, 0, api.ErrArg}, {program("def f(x) = 1"), 800000, 0, api.OK}, {program("def f(x) = 1"), 800001, 0, api.ErrArg}, {api.Program{}, 1, 0, api.ErrArg}, {program("def f(x) = 1", "(int) -> int"), 1, 0, api.ErrArg}, {program("def f(x) = 1 def g(x) = 1", "() -> int"), 1, 0, api.ErrArg}, {api.Program{Defs: make([]api.Def, 1)}, 1, 0, api.ErrArg},
		{program("def f(x) =\nadd(x)"), 1, 2, api.ErrType}, {program("def f(x) =\nadd[2](x, x)"), 1, 2, api.ErrType}, {program("def f(x) =\nadd{2}(x, x)"), 1, 2, api.ErrType}, {program("def f(x) =\nadd@(0, 0)(x, x)"), 1, 2, api.ErrType}, {program("def f(x) =\ntake(x)"), 1, 2, api.ErrType}, {program("def f(x) =\ntake[1, 2](x)"), 1, 2, api.ErrType}, {program("def f(x) =\nchunk(x)"), 1, 2, api.ErrType}, {program("def f(x) =\nchunk{64}(x)"), 1, 0, api.OK}, {program("def f(x) =\nfold(take, x, x)"), 1, 2, api.ErrType}, {program("def f(x) =\nfold(neg, x, x)"), 1, 2, api.ErrType}, {program("def f(x) =\nscan(select, x)"), 1, 2, api.ErrType},
		{program("def f(x) =\nadd(1,\nadd(x))"), 1, 3, api.ErrType}, {program("def f(x) =\nadd(add(x),\nadd())"), 1, 2, api.ErrType}, {program("def f(x) =\nadd(\nadd(x))"), 1, 3, api.ErrType},
		{program(f+"\nf(x, y)", "(A) -> A"), 1, 2, api.ErrType}, {program(f+"\nf[2](x)", "(A) -> A"), 1, 2, api.ErrType}, {program(f+"\nf{2}(x)", "(A) -> A"), 1, 2, api.ErrType}, {program(f+"\nf@(1)(x)", "(A) -> A"), 1, 2, api.ErrRank}, {program(f+"\nf@(0)(x)", "(A) -> A"), 1, 0, api.OK}, {program(f+"\nfold(f, x, y)", "(A) -> A"), 1, 2, api.ErrType}, {program(f+"\nf@(1)(x)", "([r.., n, m]A) -> A"), 1, 2, api.ErrRank}, {program(f+"\nf@(2)(x)", "([r.., n, m]A) -> A"), 1, 0, api.OK}, {program(f+"\nf@(2)(x)", "([r..]A) -> [s..]A"), 1, 2, api.ErrRank}, {program(f+"\nf@(6)(x)", "([r..]A) -> [r.., 2]A"), 1, 2, api.ErrLimit},
		{program(rows+"\nf@(2, 1)(x, y)", "([r..]A, [r..]A) -> [r..]A"), 1, 2, api.ErrRank}, {program(rows+"\nf@(2, 1)(x, y)", "([r.., n]A, [r..]A) -> [r..]A"), 1, 0, api.OK},
		{program("def f(x: [1000000]int) =\nwindows[-5](x)"), 1, 0, api.OK}, {program("def f(x) =\nwindows[-1000000](windows[1000000](x))"), 1, 2, api.ErrLimit}, {program("def f(x) =\nchunk{2}(take[1000000](x))"), 1, 0, api.OK},
	} {
		s, line, e := generate.Generate(c.p, c.next)
		if line != c.line || e != c.e || e != api.OK && (s.Cons != nil || s.Next != 0) {
			t.Errorf("%d: %d %d", i, line, e)
		}
	}
	// Each call of f has 60 conditions, so 17 of them are too many constraints.
	where := "(A) -> A where n" + strings.Repeat(", n", 59)
	if _, line, e := generate.Generate(program("def f(x) = x def g(x) =\nf(x)"+strings.Repeat("+f(x)", 15), where), 1); line != 0 || e != api.OK {
		t.Errorf("%d %d", line, e)
	}
	if _, line, e := generate.Generate(program("def f(x) = x def g(x) =\nf(x)"+strings.Repeat("+f(x)", 16), where), 1); line != 0 || e != api.ErrLimit {
		t.Errorf("%d %d", line, e)
	}
	p := program("def f(x: [n]int): int = 1")
	p.Defs[0].Line, p.Defs[0].Body.Line = 99999, 0
	if s, _, e := generate.Generate(p, 1); e != api.OK || s.Cons[0].Line != 1 {
		t.Errorf("%v %d", s, e)
	}
	p = program("def f(x) = x + 1")
	p.Defs[0].Body.Line = 0
	if s, _, e := generate.Generate(p, 1); e != api.OK || s.Cons[0].Line != 1 {
		t.Errorf("%v %d", s, e)
	}
}

func TestNames(t *testing.T) { // P30.1
	for s, want := range map[string]bool{"_": true, "_1": true, "__": true, "_x": true, "E1000001": true, "E0000000": true, "E123456": false, "E12345678901234567890": true, "E": false, "F1000001": false, "E100000x": false, "": false, "n": false} {
		if generate.Reserved(s) != want {
			t.Errorf("%q", s)
		}
	}
	p := program("def f(x, y) = let z = x + 1 in z * neg(y) def g(x, y) = f(y, x) def h(x) = [x] def i(x) = index(x, 0) def j(x) = f@(0, 0)(x, x) def k(x) = h(x) def l(x) = size[1] def m(x) = j(x)",
		"(int, int) -> int", "(int, int) -> int", "(int) -> [1]int", "([n]int) -> int", "(int) -> int", "(int) -> [1]int", "(int) -> int")
	for name, want := range map[string]bool{"add": true, "eq": true, "take": false, "a.f": true, "a.g": true, "a.h": false, "a.i": false, "a.j": false, "a.k": false, "a.l": false, "a.m": false, "f": false, "": false, "fold": false} {
		if generate.Scalar(p, name) != want {
			t.Errorf("%q", name)
		}
	}
	p.Schemes[0].Params[1].Shape.Row = "r"
	if generate.Scalar(p, "a.f") || generate.Scalar(p, "a.g") || generate.Scalar(api.Program{Schemes: make([]api.Scheme, 1)}, "add") {
		t.Error("Scalar")
	}
	d := program("def f(x, y: [n]int, z: bool): [2]int = 1").Defs[0]
	if got := typs(generate.Given(d)); got != "[n]int bool [2]int" {
		t.Errorf("%s", got)
	}
	if generate.Given(program("def f(x) = 1").Defs[0]) != nil {
		t.Error("Given")
	}
}

var sources = []string{
	"def f(x) = x + 1", "def f(x: [n]int) = let y = take[2](x) in fold(add, 0, y)", "def f(x, y) = [select(x, 1, y), size[3]]", "def f(x: [n, m]bool): [m]bool = scan(xor, transpose(x))", "def f(x) = index(update(x, 1, 2), 0) + #[2: 1 2]",
}

func TestForm(t *testing.T) { // P30.2, P30.3, P30.4, P30.5
	for _, text := range sources {
		p := program(text)
		s, _, e := generate.Generate(p, 1)
		u, _, f := generate.Generate(p, 5000)
		if e != api.OK || f != api.OK || !constraint.Valid(s.Cons) || len(s.Types) != term.Size(p.Defs[0].Body) || len(s.Cons) != len(u.Cons) || u.Next != s.Next+4999 {
			t.Fatalf("%s: %d", text, e)
		}
		for i, c := range s.Cons {
			if c.Kind != u.Cons[i].Kind || c.Line != u.Cons[i].Line || !slices.Contains(append(term.Lines(p.Defs[0].Body), p.Defs[0].Line), c.Line) {
				t.Errorf("%s: %v", text, c)
			}
		}
		before := -1
		for i, site := range s.Sites {
			node, _ := term.Nth(p.Defs[0].Body, site.Node)
			if site.Node <= before || node.Kind < api.TermCall || u.Sites[i].Cons != site.Cons {
				t.Errorf("%s: %v", text, site)
			}
			before = site.Node
		}
		for _, x := range slices.Concat(s.Types, s.Params, []api.Type{s.Result}) {
			for _, v := range types.TypeVars(x) {
				if len(generate.Given(p.Defs[0])) == 0 && !generate.Reserved(v.Var) {
					t.Errorf("%s: %s", text, v.Var)
				}
				var n int
				if k, _ := fmt.Sscanf(v.Var, "_%d", &n); k == 1 && n >= s.Next {
					t.Errorf("%s: %s", text, v.Var)
				}
			}
		}
		s.Types[0].Shape.Row = "z"
		s.Params[0].Elem = "Z"
		if len(s.Cons) > 0 && len(s.Cons[0].Args) > 0 {
			s.Cons[0].Args[0].Elem = "Z"
		}
		if again, _, _ := generate.Generate(p, 1); again.Types[0].Shape.Row == "z" || again.Params[0].Elem == "Z" {
			t.Error("memory is shared")
		}
	}
}
