package elaborate_test

import (
	"fmt"
	"slices"
	"strings"
	"testing"

	"framewise/agree"
	"framewise/api"
	"framewise/binding"
	"framewise/elaborate"
	"framewise/infer"
	"framewise/linear"
	"framewise/parser"
	"framewise/prims"
	"framewise/resolve"
	"framewise/shape"
	"framewise/term"
	"framewise/types"
)

func program(text string) api.Program {
	m, at, e := parser.Parse("module m " + text)
	if e != api.OK {
		panic(fmt.Sprint(text, at, e))
	}
	p, fault, e := resolve.Resolve([]api.Module{m})
	if e != api.OK {
		panic(fmt.Sprint(text, fault, e))
	}
	return p
}

func show(n api.Node) string {
	t, _ := types.Print(n.Type)
	s := fmt.Sprint(n.Line, " ", n.Name, " ", t)
	for _, l := range n.Sizes {
		s += " [" + linear.Print(l) + "]"
	}
	if f, _ := shape.Print(n.Frame); n.Framed != nil {
		s += " " + f + strings.ReplaceAll(strings.ReplaceAll(strings.ReplaceAll(fmt.Sprint(n.Framed), "true", "f"), "false", "-"), " ", "")
	}
	for _, b := range n.Inst {
		row, _ := shape.Print(b.Row)
		s += " " + b.Var + "=" + []string{"", linear.Print(b.Dim), row, b.Elem}[b.Kind]
	}
	for _, k := range n.Kids {
		s += "\n" + show(k)
	}
	return s
}

func TestElaborate(t *testing.T) { // P32.1
	for source, want := range map[string]string{
		"def f(x: [n]int) = x + 1": `1 add [n1]int [n1][f-]
1 x [n1]int
1 int int`,
		"def f(x: [n]int, y) =\nlet z = take[n-1](x) in [z, y]": `2 z [n1-1, 2]int
2 take [n1-1]int [n1-1] [][-] n=n1 A=int
2 x [n1]int
2  [n1-1, 2]int [n1-1][ff] A=int
2 z [n1-1]int
2 y [n1-1]int`,
		"def f(x) = fold(max, 0, x)": `1 max [r1..]int [r1..][-f] n=n1
1 int int
1 x [r1.., n1]int`,
	} {
		d, lines, e := elaborate.Elaborate(program(source))
		if got := show(d.Body); got != want || lines != nil || e != api.OK || d.Name != "m.f" || d.Params[0] != "x" {
			t.Errorf("%s: %v %d\n%s", source, lines, e, got)
		}
	}
	p := program("def f(x) =\nx + true")
	if d, lines, e := elaborate.Elaborate(p); d.Name != "" || !slices.Equal(lines, []int{2}) || e != api.ErrType {
		t.Errorf("%v %d", lines, e)
	}
	if l, lines, e := elaborate.All(p); l != nil || !slices.Equal(lines, []int{2}) || e != api.ErrType {
		t.Errorf("%v %d", lines, e)
	}
	if _, _, e := elaborate.Elaborate(api.Program{}); e != api.ErrArg {
		t.Errorf("%d", e)
	}
	if l, _, e := elaborate.All(api.Program{Defs: make([]api.Def, 1)}); e != api.ErrArg || l != nil {
		t.Errorf("%d", e)
	}
	p = program("def id(x) = x def f(x) = id@(1)(x) + id(2) def g(x) = f(x) + true def h(x) = 1")
	p.Schemes = make([]api.Scheme, 2)
	l, _, e := elaborate.All(p)
	if len(l) != 3 || e != api.ErrType || l[0].Name != "m.h" || l[1].Name != "m.id" || l[2].Name != "m.f" {
		t.Errorf("%d %d", len(l), e)
	}
	p.Schemes = make([]api.Scheme, 5)
	if _, _, e := elaborate.All(p); e != api.ErrArg {
		t.Errorf("%d", e)
	}
}

var sources = []string{
	"def f(x) = x + 1 def g(x: [n]int) = f(x) * size[n] + f(2)", "def f(x: [n]int) = let y = take[2](x) in fold(add, 0, y) def g(y: [k, n]int) = f(y) + f@(1)(reverse(y))", "def f(x, y) = [select(x, 1, y), size[3]] def g(a) = let b = a in let a = b == 1 in f(a, b)", "def f(x: [n, m]bool): [m, n]bool = scan(xor, transpose(x))", "def f(x: [n]int) = index(update(x, 1, 2), 0) + #[2: 1 2]", "def f(x, y) = fold(max, y, windows[3](x))", "def id(x) = x def k(x) = id@(1)(x) + id(x)", "def f(x: [2n]int) = chunk{2}(x) def g(x: [6]int) = f(x)",
}

func all(t *testing.T, source string) (api.Program, []api.Typed) {
	t.Helper()
	p := program(source)
	l, _, e := elaborate.All(p)
	if e != api.OK {
		t.Fatalf("%s: %d", source, e)
	}
	return p, l
}

func TestErasure(t *testing.T) { // P32.2, P32.6
	for _, source := range sources {
		p, l := all(t, source)
		for i, d := range l {
			erased := elaborate.Erase(d.Body)
			body := p.Defs[i].Body
			nodes := elaborate.Nodes(d.Body)
			if term.Size(erased) != term.Size(body) || len(nodes) != term.Size(body) {
				t.Fatalf("%s", source)
			}
			for j, n := range nodes {
				a, _ := term.Nth(erased, j)
				b, _ := term.Nth(body, j)
				a.Sizes, b.Sizes, a.Kids, b.Kids = nil, nil, nil, nil
				if !term.Equal(a, b) || a.Line != b.Line || n.Kind != b.Kind || n.Line != b.Line {
					t.Errorf("%s: %v %v", source, a, b)
				}
			}
			q := api.Program{Defs: p.Defs}
			for _, d := range l[:i] {
				q.Schemes = append(q.Schemes, d.Scheme)
			}
			again, _, _ := elaborate.Elaborate(q)
			s, _, _, _ := infer.Infer(q)
			if !elaborate.Equal(d, again) || !types.EqualScheme(s, d.Scheme) {
				t.Errorf("%s: %s", source, d.Name)
			}
		}
	}
}

// subst returns what the scheme of a node's function is under its instance.
func applied(l []api.Typed, n api.Node) api.Scheme {
	switch n.Kind {
	case api.TermPack:
		cell := api.Type{Elem: n.Inst[0].Elem}
		return api.Scheme{Params: slices.Repeat([]api.Type{cell}, len(n.Kids)), Result: api.Type{Elem: cell.Elem, Shape: api.Shape{Dims: []api.Linear{linear.Of(len(n.Kids))}}}}
	case api.TermCall:
		if s, e := prims.Under(n.Name, n.Sizes, n.Num, n.Inst); e == api.OK {
			return s
		}
	}
	var general api.Scheme
	if sig, ok := prims.Sig(n.Name); ok {
		general = sig.Scheme
	}
	for _, d := range l {
		if d.Name == n.Name {
			general = d.Scheme
		}
	}
	s, e := types.SubstScheme(general, n.Inst)
	if e != api.OK {
		panic(e)
	}
	if n.Kind == api.TermCall {
		return s
	}
	var dim api.Linear
	for _, b := range n.Inst {
		if b.Kind == api.DimVar && b.Var == "n" {
			dim = b.Dim
		}
	}
	list := api.Type{Elem: s.Params[1].Elem, Shape: api.Shape{Dims: []api.Linear{dim}}}
	if n.Kind == api.TermScan {
		return api.Scheme{Params: []api.Type{list}, Result: list}
	}
	return api.Scheme{Params: []api.Type{s.Params[0], list}, Result: s.Params[0]}
}

func TestNodes(t *testing.T) { // P32.3, P32.4, P32.5
	for _, source := range sources {
		_, l := all(t, source)
		for _, d := range l {
			known := map[string]bool{}
			for _, v := range types.Vars(api.Scheme{Params: d.Scheme.Params, Result: d.Scheme.Result}) {
				known[v.Var] = true
			}
			if !types.Equal(d.Body.Type, d.Scheme.Result) {
				t.Errorf("%s: the type of the body of %s", source, d.Name)
			}
			var visit func(n api.Node, env map[string]api.Type)
			visit = func(n api.Node, env map[string]api.Type) {
				vars := append(types.TypeVars(n.Type), shape.Vars(n.Frame)...)
				for _, b := range n.Inst {
					vars = append(vars, binding.Vars(b)...)
				}
				vars = append(vars, shape.Vars(api.Shape{Dims: n.Sizes})...)
				for _, v := range vars {
					if !known[v.Var] {
						t.Errorf("%s: %s in %s", source, v.Var, show(n))
					}
				}
				if n.Kind == api.TermVar && !types.Equal(n.Type, env[n.Name]) {
					t.Errorf("%s: %s", source, show(n))
				}
				if n.Kind >= api.TermCall {
					s := applied(l, n)
					c := api.Constraint{Kind: api.ConsAgree, Cells: s.Params, OutCell: s.Result, Out: n.Type}
					for _, k := range n.Kids {
						c.Args = append(c.Args, k.Type)
					}
					if n.Framed == nil && len(n.Kids) > 0 {
						for i, k := range n.Kids {
							if !types.Equal(k.Type, s.Params[i]) {
								t.Errorf("%s: %s", source, show(n))
							}
						}
					} else if !agree.Holds(c, n.Frame, n.Framed) {
						t.Errorf("%s: %s", source, show(n))
					}
				}
				for i, k := range n.Kids {
					inner := env
					if n.Kind == api.TermLet && i == 1 {
						inner = map[string]api.Type{}
						for v, old := range env {
							inner[v] = old
						}
						inner[n.Name] = n.Kids[0].Type
					}
					visit(k, inner)
				}
			}
			env := map[string]api.Type{}
			for i, v := range d.Params {
				env[v] = d.Scheme.Params[i]
			}
			visit(d.Body, env)
		}
	}
}

func TestEqual(t *testing.T) { // P32.1
	_, l := all(t, sources[0])
	d := l[0]
	for i, f := range []func(*api.Typed){
		func(d *api.Typed) { d.Name = "m.k" }, func(d *api.Typed) { d.Params = []string{"k"} }, func(d *api.Typed) { d.Scheme.Where = []api.Linear{{}} }, func(d *api.Typed) { d.Body.Kind = 1 }, func(d *api.Typed) { d.Body.Line = 9 }, func(d *api.Typed) { d.Body.Name = "sub" }, func(d *api.Typed) { d.Body.Num = 9 }, func(d *api.Typed) { d.Body.Array.Elem = "int" }, func(d *api.Typed) { d.Body.Sizes = []api.Linear{{}} }, func(d *api.Typed) { d.Body.Ranks = []int{0} }, func(d *api.Typed) { d.Body.Type.Elem = "bool" }, func(d *api.Typed) { d.Body.Frame.Row = "r9" }, func(d *api.Typed) { d.Body.Framed = nil }, func(d *api.Typed) { d.Body.Inst = []api.Bind{{}} }, func(d *api.Typed) { d.Body.Check = 1 }, func(d *api.Typed) { d.Body.Certs = []api.Cert{{}} }, func(d *api.Typed) { d.Body.Kids = d.Body.Kids[:1] },
	} {
		other := d
		if f(&other); elaborate.Equal(d, other) {
			t.Errorf("%d", i)
		}
	}
	if !elaborate.Equal(api.Typed{Params: []string{}, Body: api.Node{Kids: []api.Node{}}}, api.Typed{}) || !elaborate.Equal(d, d) {
		t.Error("Equal")
	}
	nodes := elaborate.Nodes(d.Body)
	nodes[0].Kids[0].Name = "z"
	if nodes[1].Name != "x" || d.Body.Kids[0].Name != "x" {
		t.Error("memory is shared")
	}
	if t2 := elaborate.Erase(api.Node{Kind: 99, Kids: []api.Node{{Line: -1}}}); t2.Kind != 99 || t2.Kids[0].Line != -1 {
		t.Error("any node")
	}
}
