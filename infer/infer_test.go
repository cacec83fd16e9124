package infer_test

import (
	"fmt"
	"regexp"
	"slices"
	"strings"
	"testing"

	"framewise/api"
	"framewise/conflict"
	"framewise/constraint"
	"framewise/generate"
	"framewise/infer"
	"framewise/linear"
	"framewise/parser"
	"framewise/resolve"
	"framewise/types"
)

func program(text string) api.Program {
	m, at, e := parser.Parse("module m " + text)
	if e != api.OK {
		panic(fmt.Sprint(text, at, e))
	}
	p, fault, e := resolve.Resolve([]api.Module{m})
	if e != api.OK {
		panic(fmt.Sprint(text, fault, e))
	}
	return p
}

func scheme(s string) api.Scheme {
	t, e := types.ParseScheme(s)
	if e != api.OK {
		panic(s)
	}
	return t
}

func text(s api.Scheme) string {
	t, e := types.PrintScheme(s)
	if e != api.OK {
		return "error"
	}
	return t
}

func texts(l []api.Scheme) string {
	var parts []string
	for _, s := range l {
		parts = append(parts, text(s))
	}
	return strings.Join(parts, "; ")
}

func TestAll(t *testing.T) { // P31.1
	for source, want := range map[string]string{
		"def f(x) = x + 1":              "([r1..]int) -> [r1..]int",
		"def f(x: [n]int) = take[2](x)": "([n1]int) -> [2]int where n1-2",
		"def sum(x: [n]int) = fold(add, 0, x) def rows(y: [k, n]int) = sum(y)": "([n1]int) -> int; ([n1, n2]int) -> [n1]int",
		"def pairs(x: [n]int) = windows[2](x)":                                 "([n1]int) -> [n1-1, 2]int where n1-2, n1-1",
		"def id(x) = x":                                                        "([r1..]A1) -> [r1..]A1",
		"def f(x, y) = x + y":                                                  "([r1..]int, [r1..]int) -> [r1..]int",
		"def f(x, y) = select(x, y, y)":                                        "([r1..]bool, [r1..]A1) -> [r1..]A1",
		"def f(x: [n]int, i: int) = index(x, i)":                               "([n1]int, int) -> int",
		"def f(x: [n]int) = index(x, iota[n]())":                               "([n1]int) -> [n1]int",
		"def f(x) = fold(add, 0, x)":                                           "([r1.., n1]int) -> [r1..]int",
		"def f(x: [n, m]int) = transpose(x)":                                   "([n1, n2]int) -> [n2, n1]int",
		"def f(x: [2n]int) = chunk{2}(x)":                                      "([2n1]int) -> [n1, 2]int",
		"def f(x) = [x, 1]":                                                    "([r1..]int) -> [r1.., 2]int",
		"def f(x: [n]int): [n]int = drop[0](x)":                                "([n1]int) -> [n1]int",
		"def id(x) = x def f(x: [n, m]int) = id(x) + id(1)":                    "([r1..]A1) -> [r1..]A1; ([n1, n2]int) -> [n1, n2]int",
		"def id(x) = x def f(x: [n]int) = id@(1)(x)":                           "([r1..]A1) -> [r1..]A1; ([n1]int) -> [n1]int",
		"def k() = #[2: 1 2]":                                                  "() -> [2]int",
		"def f(x: [n+3]int) = take[2](x)":                                      "([n1+3]int) -> [2]int where n1+1, n1+3",
		"def f(x, y: [r..]int, z: [r..]int) = y + z * x":                       "([r1..]int, [r1..]int, [r1..]int) -> [r1..]int",
	} {
		p, lines, e := infer.All(program(source))
		if got := texts(p.Schemes); got != want || lines != nil || e != api.OK {
			t.Errorf("%s: %s %v %d", source, got, lines, e)
		}
	}
	p := program("def f(x) = x def g(x) = f(x) def h(x: [n]int): int = x")
	p.Schemes = []api.Scheme{scheme("(int) -> int")}
	q, lines, e := infer.All(p)
	if texts(q.Schemes) != "(int) -> int; ([r1..]int) -> [r1..]int" || e != api.ErrRank || !slices.Equal(lines, []int{1}) {
		t.Errorf("%s %v %d", texts(q.Schemes), lines, e)
	}
	p.Schemes = []api.Scheme{{}}
	if q, lines, e := infer.All(p); q.Defs != nil || lines != nil || e != api.ErrArg {
		t.Errorf("%d", e)
	}
	if _, _, e := infer.All(api.Program{Defs: make([]api.Def, 1)}); e != api.ErrArg {
		t.Errorf("%d", e)
	}
}

func TestErrors(t *testing.T) { // P31.1, P31.2, P31.4
	for i, c := range []struct {
		source string
		lines  []int
		e      api.Errno
	}{
		{"\ndef h(x: [n]int): [2]int = x", []int{2}, api.ErrConflict},
		{"\ndef h(x: [n]int): [m]int = x", []int{2}, api.ErrConflict},
		{"\ndef h(x: [r..]int) =\nfold(add, 0,\n x)", []int{2 + 1}, api.ErrConflict},
		{"\ndef h(x: [n]int, y: [m]int) =\nx +\ny", []int{3}, api.ErrConflict},
		{"def h(x) =\nx +\ntrue", []int{2}, api.ErrType},
		{"def h(x) =\nadd(x)", []int{2}, api.ErrType},
		{"def k(x: int) = 1 def l(x) =\nk@(1)(x)", []int{2}, api.ErrRank},
		{"def h(x) =\nx + fold(or, false,\nx)", []int{2}, api.ErrType},
		{"def h(x: [3]int) =\ntake[4](\nreverse(x))", []int{2, 3}, api.ErrConflict},
		{"def h() =\nlet x = iota[2]() in\nlet y = iota[3]() in\nx + y", []int{2, 3, 4}, api.ErrShape},
		{"def h(x: [n]int, y: [n, 2]int) =\n[1] + x + y", []int{2}, api.ErrRank},
		{"def f(x: [n]int, y: [m]int) = append(x, y) ==\niota[n]()", []int{1, 2}, api.ErrConflict},
	} {
		p, lines, e := infer.All(program(c.source))
		if !slices.Equal(lines, c.lines) || e != c.e {
			t.Errorf("%d: %v %d %s", i, lines, e, texts(p.Schemes))
		}
	}
}

func TestAmbiguous(t *testing.T) { // P31.1
	p := program("def id(x) = x\ndef f(x) =\n1")
	p.Schemes = []api.Scheme{scheme("() -> int")}
	// A result that no parameter determines leaves the type of the node open.
	q := program("def any() = 1\ndef f(x) =\nlet y =\nany() in 1")
	q.Schemes = []api.Scheme{scheme("() -> [r1..]A1")}
	if _, _, lines, e := infer.Infer(q); e != api.ErrAmbiguous || !slices.Equal(lines, []int{4}) {
		t.Errorf("%v %d", lines, e)
	}
	// Only the instance is open.
	q = program("def any(x) = 1\ndef f(x) =\nany(\n x) + 1")
	q.Schemes = []api.Scheme{scheme("(A1) -> int where n1")}
	if _, _, lines, e := infer.Infer(q); e != api.ErrAmbiguous || !slices.Equal(lines, []int{3}) {
		t.Errorf("%v %d", lines, e)
	}
	if s, solution, lines, e := infer.Infer(p); e != api.ErrArg || lines != nil || s.Params != nil || solution.Binds != nil {
		t.Errorf("%v %d", lines, e)
	}
}

func TestLimits(t *testing.T) { // P31.1
	// The condition of each call is another one.
	source := "def g(x) = x def f(x: [n]int) =\n0"
	for i := range 61 {
		source += fmt.Sprint("+g(take[n-", i+1, "](x))")
	}
	p := program("def f(x: [n]int) =\n0" + strings.Repeat("+fold(add, 0, take[n-1](x))", 3))
	if q, _, e := infer.All(p); e != api.OK || texts(q.Schemes) != "([n1]int) -> int where n1-1" {
		t.Errorf("%s %d", texts(q.Schemes), e)
	}
	for count, want := range map[int]api.Errno{30: api.OK, 36: api.OK} {
		source := "def f(x: [n]int) =\n0"
		for i := range count {
			source += fmt.Sprint("+fold(add, 0, take[n-", 2*i+1, "](drop[1](x)))")
		}
		if _, lines, e := infer.All(program(source)); e != want || lines != nil {
			t.Errorf("%d: %v %d", count, lines, e)
		}
	}
	if _, lines, e := infer.All(program("def f(x: [n]int) =\nwindows[-1000000](windows[1000000](x))")); e != api.ErrLimit || lines != nil {
		t.Errorf("%v %d", lines, e)
	}
}

func TestPlain(t *testing.T) { // P31.1
	s := scheme("([n, 2m]int, [r.., k]int) -> [j, i+1]int where h")
	for l, want := range map[string]bool{"n": true, "n+j+2": true, "2k": true, "m": false, "i": false, "h": false, "-n": false, "n-1": false, "3": true, "0": true, "-1": false, "n+m": false} {
		x, _ := linear.Parse(l)
		if infer.Plain(x, s) != want {
			t.Errorf("%s", l)
		}
	}
	if infer.Plain(linear.Var("N"), s) || infer.Plain(linear.Of(1), api.Scheme{}) {
		t.Error("what is not valid")
	}
}

func TestKept(t *testing.T) { // P31.2
	p := program("def f(x: [n]int) = x")
	n := api.Bind{Kind: api.DimVar, Var: "n", Dim: linear.Of(3)}
	if !infer.Kept(p, api.Solution{}) || infer.Kept(p, api.Solution{Binds: []api.Bind{n}}) || infer.Kept(p, api.Solution{Binds: []api.Bind{{}}}) || infer.Kept(api.Program{}, api.Solution{}) {
		t.Error("Kept")
	}
	n.Dim = linear.Var("_7")
	if !infer.Kept(p, api.Solution{Binds: []api.Bind{n}}) {
		t.Error("another name")
	}
	if p.Schemes = []api.Scheme{scheme("(int) -> int")}; infer.Kept(p, api.Solution{}) {
		t.Error("no next definition")
	}
}

var sources = []string{
	"def f(x) = x + 1", "def f(x: [n]int) = let y = take[2](x) in fold(add, 0, y)", "def f(x, y) = [select(x, 1, y), size[3]]", "def f(x: [n, m]bool): [m, n]bool = scan(xor, transpose(x))", "def f(x: [n]int) = index(update(x, 1, 2), 0) + #[2: 1 2]", "def f(x, y) = fold(max, y, windows[3](x))",
}

func TestSolutions(t *testing.T) { // P31.1, P31.5, P31.6
	for _, source := range sources {
		p := program(source)
		s, solution, _, e := infer.Infer(p)
		if e != api.OK {
			t.Fatalf("%s: %d", source, e)
		}
		system, _, _ := generate.Generate(p, 1)
		canonical, _ := types.Canonical(s)
		if !constraint.Holds(system.Cons, solution) || !infer.Kept(p, solution) || !types.EqualScheme(s, canonical) {
			t.Errorf("%s: %s", source, text(s))
		}
		other := program("\n\n" + regexp.MustCompile(`\bx\b`).ReplaceAllString(source, "\nw"))
		if u, _, _, f := infer.Infer(other); !types.EqualScheme(s, u) || f != api.OK {
			t.Errorf("%s: %s", source, text(u))
		}
		more, _, e := infer.All(program(source + " def z(x) = f(x, x)"))
		if !types.EqualScheme(more.Schemes[0], s) {
			t.Errorf("%s: %s %d", source, text(more.Schemes[0]), e)
		}
	}
}

func TestPrincipal(t *testing.T) { // P31.3
	for _, c := range []struct{ source, special string }{
		{"def f(x) = x + 1", "([2, 3]int) -> [2, 3]int"}, {"def f(x: [n]int) = take[2](x)", "([5]int) -> [2]int"}, {"def f(x) = fold(add, 0, x)", "([4, 5]int) -> [4]int"}, {"def f(x) = [x, x]", "(bool) -> [2]bool"},
	} {
		s, _, _, e := infer.Infer(program(c.source))
		if _, f := types.Instance(s, scheme(c.special)); e != api.OK || f != api.OK {
			t.Errorf("%s: %s %d", c.source, text(s), f)
		}
	}
}

func TestLines(t *testing.T) { // P31.4
	for _, source := range []string{"def h(x) =\nx +\ntrue +\n1", "def h() =\nlet x = iota[2]() in\nlet y = iota[3]() in\nx +\ny", "def h(x: [3]int) =\ntake[4](\nreverse(\nreverse(x)))"} {
		p := program(source)
		system, _, _ := generate.Generate(p, 1)
		_, _, lines, _ := infer.Infer(p)
		rest := system.Cons
		for _, line := range conflict.Lines(rest) {
			if !slices.Contains(lines, line) {
				rest = conflict.Without(rest, line)
			}
		}
		if !conflict.Contradict(rest) {
			t.Errorf("%s: %v", source, lines)
		}
		for _, line := range lines {
			if conflict.Contradict(conflict.Without(rest, line)) {
				t.Errorf("%s: %v without %d", source, lines, line)
			}
		}
	}
}
