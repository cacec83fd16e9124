package checker_test

import (
	"fmt"
	"slices"
	"testing"

	"framewise/api"
	"framewise/checker"
	"framewise/clone"
	"framewise/elaborate"
	"framewise/linear"
	"framewise/parser"
	"framewise/resolve"
	"framewise/shape"
	"framewise/types"
)

func elaborated(text string) []api.Typed {
	m, at, e := parser.Parse("module m " + text)
	if e != api.OK {
		panic(fmt.Sprint(text, at, e))
	}
	p, fault, e := resolve.Resolve([]api.Module{m})
	if e != api.OK {
		panic(fmt.Sprint(text, fault, e))
	}
	l, lines, e := elaborate.All(p)
	if e != api.OK {
		panic(fmt.Sprint(text, lines, e))
	}
	return l
}

func lin(s string) api.Linear {
	l, e := linear.Parse(s)
	if e != api.OK {
		panic(s)
	}
	return l
}

func scheme(s string) api.Scheme {
	t, e := types.ParseScheme(s)
	if e != api.OK {
		panic(s)
	}
	return t
}

func text(s api.Scheme) string {
	t, _ := types.PrintScheme(s)
	return t
}

var sources = []string{
	"def f(x: [n]int) = x + 1", "def f(x) = x + 1 def g(x: [n]int) = f(x) * size[n] + f(2)", "def f(x: [n]int) = let y = take[2](x) in fold(add, 0, y) def g(y: [k, n]int) = f(y) + f@(1)(reverse(y))", "def f(x, y) = [select(x, 1, y), size[3]] def g(a) = let b = a in let a = b == 1 in f(a, b)", "def f(x: [n, m]bool): [m, n]bool = scan(xor, transpose(x))", "def f(x: [n]int) = index(update(x, 1, 2), 0) + #[2: 1 2]", "def f(x, y) = fold(max, y, windows[3](x))", "def id(x) = x def k(x) = id@(1)(x) + id(x)", "def f(x: [2n]int) = chunk{2}(x) def g(x: [6]int) = f(x)", "def s(a: int, b: int) = let c = a in c * 3 - b def f(x) = fold(s, 0, scan(s, x))", "def f(x: [n]int) = drop[n-2](x) def g(x: [k, 5]int, y) = f(x) + y",
}

func TestAccepts(t *testing.T) { // P33.2
	for _, source := range sources {
		l := elaborated(source)
		if n, at, e := checker.All(l); n != len(l) || at != 0 || e != api.OK {
			t.Errorf("%s: %d %d %d", source, n, at, e)
		}
		for i, d := range l {
			if n, e := checker.Check(l[:i], d); n != len(elaborate.Nodes(d.Body)) || e != api.OK {
				t.Errorf("%s: %d %d", source, n, e)
			}
		}
	}
}

func TestFaults(t *testing.T) { // P33.1
	source := "def g(x: [n]int) = take[2](x) def f(x: [n]int, y) = let z = g(x) in [fold(add, y, z), -5 + size[n], index(#[1: 7], 0)]"
	l := elaborated(source)
	if l[0].Name != "m.g" {
		t.Fatal(l[0].Name)
	}
	// Nodes of f: 0 let, 1 g, 2 x, 3 pack, 4 fold, 5 y, 6 z, 7 add, 8 -5, 9 size, 10 index, 11 #, 12 0.
	at := func(d *api.Typed, i int) *api.Node {
		var found *api.Node
		var visit func(n *api.Node)
		visit = func(n *api.Node) {
			if i--; i == -1 {
				found = n
			}
			for k := range n.Kids {
				visit(&n.Kids[k])
			}
		}
		visit(&d.Body)
		return found
	}
	for i, c := range []struct {
		f  func(*api.Typed)
		at int
		e  api.Errno
	}{
		{func(d *api.Typed) {}, 13, api.OK},
		{func(d *api.Typed) { d.Name = "f" }, -1, api.ErrArg}, {func(d *api.Typed) { d.Name = "m.g" }, -1, api.ErrArg}, {func(d *api.Typed) { d.Params = d.Params[:1] }, -1, api.ErrArg}, {func(d *api.Typed) { d.Params[1] = "x" }, -1, api.ErrArg}, {func(d *api.Typed) { d.Params[1] = "Y" }, -1, api.ErrArg}, {func(d *api.Typed) { d.Scheme.Result.Elem = "x" }, -1, api.ErrArg}, {func(d *api.Typed) { at(d, 6).Kind = 0 }, -1, api.ErrArg}, {func(d *api.Typed) { at(d, 8).Num = 1 << 40 }, -1, api.ErrArg},
		{func(d *api.Typed) { at(d, 5).Type.Elem = "x" }, 4, api.ErrType}, {func(d *api.Typed) { at(d, 12).Type.Elem = "A9" }, 10, api.ErrType}, {func(d *api.Typed) { at(d, 4).Type.Elem = "A9" }, 3, api.ErrType}, {func(d *api.Typed) { d.Body.Type.Elem = "A9" }, 0, api.ErrArg}, {func(d *api.Typed) { at(d, 5).Frame.Row = "r1" }, 5, api.ErrArg}, {func(d *api.Typed) { at(d, 4).Frame.Row = "r9" }, 4, api.ErrArg}, {func(d *api.Typed) { at(d, 4).Frame.Dims = make([]api.Linear, 7) }, 4, api.ErrArg}, {func(d *api.Typed) { at(d, 4).Inst[0].Dim = lin("n7") }, 4, api.ErrArg}, {func(d *api.Typed) { at(d, 4).Inst = append(at(d, 4).Inst, at(d, 4).Inst...) }, 4, api.ErrArg}, {func(d *api.Typed) { at(d, 9).Sizes[0] = lin("n7") }, 9, api.ErrArg}, {func(d *api.Typed) { at(d, 9).Framed = []bool{true} }, 9, api.ErrArg}, {func(d *api.Typed) { at(d, 0).Inst = at(d, 4).Inst }, 0, api.ErrArg},
		{func(d *api.Typed) { at(d, 6).Name = "w" }, 6, api.ErrName}, {func(d *api.Typed) { at(d, 1).Name = "m.f" }, 1, api.ErrName}, {func(d *api.Typed) { at(d, 4).Name = "m.k" }, 4, api.ErrName}, {func(d *api.Typed) { at(d, 2).Name = "z" }, 2, api.ErrName},
		{func(d *api.Typed) { at(d, 2).Type.Elem = "bool" }, 1, api.ErrType}, {func(d *api.Typed) { at(d, 6).Name = "x" }, 6, api.ErrType}, {func(d *api.Typed) { at(d, 8).Name, at(d, 8).Num = "bool", 1 }, 8, api.ErrType}, {func(d *api.Typed) { at(d, 11).Array.Dims, at(d, 11).Array.Data = []int{2}, []int{1, 2} }, 11, api.ErrType}, {func(d *api.Typed) { at(d, 9).Type.Elem = "bool" }, 7, api.ErrType}, {func(d *api.Typed) { d.Scheme.Result = scheme("() -> [2]int").Result }, 0, api.ErrType}, {func(d *api.Typed) { at(d, 4).Name = "take" }, 4, api.ErrType}, {func(d *api.Typed) { at(d, 4).Name = "lt" }, 4, api.ErrType}, {func(d *api.Typed) { at(d, 4).Inst = nil }, 4, api.ErrType}, {func(d *api.Typed) { at(d, 3).Inst[0].Elem = "bool" }, 3, api.ErrType}, {func(d *api.Typed) { at(d, 3).Inst = nil }, 3, api.ErrType}, {func(d *api.Typed) { at(d, 10).Inst[0].Dim = lin("2") }, 10, api.ErrType}, {func(d *api.Typed) { at(d, 7).Ranks = []int{0, 0} }, 7, api.ErrType}, {func(d *api.Typed) { at(d, 7).Num = 1 }, 7, api.ErrType}, {func(d *api.Typed) { at(d, 7).Framed = []bool{false} }, 7, api.ErrType}, {func(d *api.Typed) { at(d, 7).Frame.Dims = []api.Linear{lin("2")} }, 7, api.ErrType}, {func(d *api.Typed) { slices.Reverse(at(d, 10).Inst) }, 10, api.ErrType},
		{func(d *api.Typed) { d.Scheme.Where = nil }, 1, api.ErrRange}, {func(d *api.Typed) { d.Scheme.Where = []api.Linear{lin("n1-3")} }, 1, api.ErrRange},
	} {
		d := clone.Typed(l[1])
		c.f(&d)
		n, e := checker.Check(l[:1], d)
		if n != c.at || e != c.e {
			t.Errorf("%d: %d %d", i, n, e)
		}
		if def, m, f := checker.All([]api.Typed{l[0], d}); e != api.OK && (def != 1 || m != n || f != e) {
			t.Errorf("%d: %d %d %d", i, def, m, f)
		}
	}
	d := elaborated("def f(x: [n]int) = x + 1")[0]
	if n, e := checker.Check(nil, d); n != 3 || e != api.OK {
		t.Errorf("%d %d", n, e)
	}
	d.Body.Frame.Dims[0] = lin("2")
	if n, e := checker.Check(nil, d); n != 0 || e != api.ErrType {
		t.Errorf("%d %d", n, e)
	}
	if n, at, e := checker.All(nil); n != 0 || at != 0 || e != api.OK {
		t.Error("nothing")
	}
}

func TestRefuses(t *testing.T) { // P33.3
	for _, source := range sources {
		l := elaborated(source)
		for i, d := range l {
			for at := range elaborate.Nodes(d.Body) {
				for k, f := range []func(n *api.Node) bool{
					func(n *api.Node) bool { n.Type.Shape.Dims = append(n.Type.Shape.Dims, lin("2")); return true },
					func(n *api.Node) bool {
						n.Type.Elem = map[string]string{"int": "bool", "bool": "int"}[n.Type.Elem]
						return n.Type.Elem != ""
					},
					func(n *api.Node) bool { n.Frame.Dims = append(n.Frame.Dims, lin("2")); return true },
					func(n *api.Node) bool {
						n.Frame.Dims = n.Frame.Dims[:max(len(n.Frame.Dims)-1, 0)]
						return len(n.Frame.Dims) > 0
					},
					func(n *api.Node) bool { n.Inst = n.Inst[:max(len(n.Inst)-1, 0)]; return len(n.Inst) > 0 },
					func(n *api.Node) bool {
						for j := range n.Framed {
							n.Framed[j] = !n.Framed[j]
							return !shape.Equal(n.Frame, api.Shape{})
						}
						return false
					},
				} {
					other := clone.Typed(d)
					number, changed := at, false
					var visit func(n *api.Node)
					visit = func(n *api.Node) {
						if number--; number == -1 {
							changed = f(n)
						}
						for j := range n.Kids {
							visit(&n.Kids[j])
						}
					}
					visit(&other.Body)
					if elaborate.Equal(d, other) {
						changed = false
					}
					if _, e := checker.Check(l[:i], other); changed && e == api.OK {
						t.Errorf("%s: change %d of node %d", source, k, at)
					}
				}
			}
		}
	}
}

func TestConditions(t *testing.T) { // P33.4
	for _, source := range sources {
		l := elaborated(source)
		for i, d := range l {
			for n := range elaborate.Preorder(d.Body) {
				s, _, _ := checker.Applied(l[:i], n)
				for v := 0; v < 216; v++ {
					values := []api.Value{{Var: "n1", N: v%6 - 1}, {Var: "n2", N: v/6%6 - 1}, {Var: "n3", N: v/36 - 1}}
					holds := func(w []api.Linear) bool {
						return !slices.ContainsFunc(w, func(x api.Linear) bool { k, _ := linear.Eval(x, values); return k < 0 })
					}
					dims := slices.Clone(d.Scheme.Result.Shape.Dims)
					for _, p := range d.Scheme.Params {
						dims = append(dims, p.Shape.Dims...)
					}
					if holds(d.Scheme.Where) && holds(dims) && !holds(s.Where) {
						t.Errorf("%s: %v", source, values)
					}
				}
			}
		}
	}
	s := scheme("([n, 2m]int, [r.., k]int) -> [j]int where n-2, h")
	for l, want := range map[string][2]bool{"n+j": {true, true}, "n-2": {false, true}, "n-1": {false, false}, "h": {false, true}, "m": {false, false}, "3": {true, true}, "-1": {false, false}} {
		if got := [2]bool{checker.Plain(lin(l), s), checker.Granted(lin(l), s)}; got != want {
			t.Errorf("%s: %v", l, got)
		}
	}
	bad := api.Scheme{Where: []api.Linear{lin("n")}}
	if checker.Granted(lin("n"), bad) || checker.Plain(lin("1"), bad) || checker.Granted(linear.Var("N"), s) {
		t.Error("what is not valid")
	}
}

func TestApplied(t *testing.T) { // P33.1
	l := elaborated("def f(x) = x + 1 def g(x: [n]int) = take[2](x) def k(x) = f@(1)(x) + f(x)")
	f := l[0].Name
	if f != "m.f" {
		t.Fatal(f)
	}
	elem := api.Bind{Kind: api.ElemVar, Var: "A", Elem: "int"}
	dim := api.Bind{Kind: api.DimVar, Var: "n", Dim: lin("5")}
	row := api.Bind{Kind: api.RowVar, Var: "r1", Row: api.Shape{Dims: []api.Linear{lin("n")}}}
	for i, c := range []struct {
		n     api.Node
		want  string
		whole bool
		e     api.Errno
	}{
		{api.Node{Kind: api.TermCall, Name: "add"}, "(int, int) -> int", false, api.OK},
		{api.Node{Kind: api.TermCall, Name: "take", Sizes: []api.Linear{lin("2")}, Inst: []api.Bind{dim, elem}}, "([5]int) -> [2]int where 2, 3", false, api.OK},
		{api.Node{Kind: api.TermCall, Name: "take", Sizes: []api.Linear{lin("2")}, Inst: []api.Bind{elem, dim}}, "", false, api.ErrType},
		{api.Node{Kind: api.TermCall, Name: "m.f", Inst: []api.Bind{row}}, "([n]int) -> [n]int", true, api.OK},
		{api.Node{Kind: api.TermCall, Name: "m.f", Inst: []api.Bind{row}, Ranks: []int{1}}, "([n]int) -> [n]int", false, api.OK},
		{api.Node{Kind: api.TermCall, Name: "m.f", Inst: []api.Bind{row}, Ranks: []int{2}}, "", false, api.ErrType},
		{api.Node{Kind: api.TermCall, Name: "m.f", Inst: []api.Bind{row}, Ranks: []int{1, 1}}, "", false, api.ErrType},
		{api.Node{Kind: api.TermCall, Name: "m.f", Inst: []api.Bind{row}, Num: 1}, "", false, api.ErrType},
		{api.Node{Kind: api.TermCall, Name: "m.f"}, "", false, api.ErrType},
		{api.Node{Kind: api.TermCall, Name: "m.z"}, "", false, api.ErrName},
		{api.Node{Kind: api.TermCall, Name: "m.z", Inst: []api.Bind{{}}}, "", false, api.ErrArg},
		{api.Node{Kind: api.TermVar, Name: "m.z"}, "", false, api.ErrArg}, {api.Node{Kind: 10}, "", false, api.ErrArg},
		{api.Node{Kind: api.TermPack, Inst: []api.Bind{elem}, Kids: make([]api.Node, 3)}, "(int, int, int) -> [3]int", false, api.OK},
		{api.Node{Kind: api.TermPack, Inst: []api.Bind{elem, {Kind: api.ElemVar, Var: "B", Elem: "int"}}}, "", false, api.ErrType},
		{api.Node{Kind: api.TermFold, Name: "eq", Inst: []api.Bind{dim, {Kind: api.ElemVar, Var: "A", Elem: "bool"}}}, "(bool, [5]bool) -> bool", false, api.OK},
		{api.Node{Kind: api.TermFold, Name: "eq", Inst: []api.Bind{dim, elem}}, "", false, api.ErrType},
		{api.Node{Kind: api.TermFold, Name: "neg", Inst: []api.Bind{dim}}, "", false, api.ErrType},
		{api.Node{Kind: api.TermScan, Name: "add", Inst: []api.Bind{dim}}, "([5]int) -> [5]int", false, api.OK},
		{api.Node{Kind: api.TermScan, Name: "add"}, "", false, api.ErrType},
		{api.Node{Kind: api.TermScan, Name: "m.f", Inst: []api.Bind{dim, row}}, "", false, api.ErrType},
		{api.Node{Kind: api.TermScan, Name: "m.z"}, "", false, api.ErrName},
	} {
		s, whole, e := checker.Applied(l, c.n)
		if e == api.OK && text(s) != c.want || whole != c.whole || e != c.e || e != api.OK && s.Params != nil {
			t.Errorf("%d: %s %v %d", i, text(s), whole, e)
		}
	}
}

func TestScalar(t *testing.T) { // P33.1, P33.5, P33.6
	l := elaborated("def a(x: int, y: int) = let z = x in z * y def b(x: int) = a(x, 1) def c(x: int) = [x] def d(x: [n]int) = x def e(x: int): int = index(#[1: 5], x)")
	for name, want := range map[string]bool{"add": true, "take": false, "m.a": true, "m.b": true, "m.c": false, "m.d": false, "m.e": false, "m.z": false} {
		if checker.Scalar(l, name) != want {
			t.Errorf("%s", name)
		}
	}
	turned := slices.Clone(l)
	slices.Reverse(turned)
	if !checker.Scalar(turned, "m.b") {
		t.Error("the order matters")
	}
	loop := clone.Typed(l[0])
	loop.Body.Kids[1].Name = "m.a"
	if checker.Scalar([]api.Typed{loop}, "m.a") || checker.Scalar([]api.Typed{loop, l[1]}, "m.b") {
		t.Error("a definition that calls itself")
	}
	more := elaborated("def zz(x) = x")
	more[0].Name = "k.zz"
	for i, d := range l {
		if n, e := checker.Check(append(more, turned[len(l)-i:]...), d); e != api.OK || n == 0 {
			t.Errorf("%s: %d", d.Name, e)
		}
	}
}
