package exec_test

import (
	"fmt"
	"slices"
	"strings"
	"testing"

	"framewise/api"
	"framewise/array"
	"framewise/clone"
	"framewise/elaborate"
	"framewise/eval"
	"framewise/exec"
	"framewise/infer"
	"framewise/linear"
	"framewise/parser"
	"framewise/resolve"
	"framewise/shape"
	"framewise/types"
)

func program(text string) api.Program {
	m, at, e := parser.Parse("module m " + text)
	if e != api.OK {
		panic(fmt.Sprint(text, at, e))
	}
	p, fault, e := resolve.Resolve([]api.Module{m})
	if e != api.OK {
		panic(fmt.Sprint(text, fault, e))
	}
	return p
}

func elaborated(text string) []api.Typed {
	l, lines, e := elaborate.All(program(text))
	if e != api.OK {
		panic(fmt.Sprint(text, lines, e))
	}
	return l
}

func arrays(texts ...string) []api.Array {
	var l []api.Array
	for _, s := range texts {
		a, e := array.Parse(s)
		if e != api.OK {
			panic(s)
		}
		l = append(l, a)
	}
	return l
}

func scheme(s string) api.Scheme {
	t, e := types.ParseScheme(s)
	if e != api.OK {
		panic(s)
	}
	return t
}

func show(out api.Array, violated []int, e api.Errno) string {
	if e != api.OK {
		if out.Elem != "" || violated != nil {
			return "an error with more"
		}
		return api.Name(e)
	}
	s, _ := array.Print(out)
	for _, n := range violated {
		s += fmt.Sprint(" ", n)
	}
	return s
}

func TestBinds(t *testing.T) { // P37.1, P37.5
	for i, c := range []struct {
		scheme string
		inputs []string
		want   string
		e      api.Errno
	}{
		{"([r1.., n1]int, [n1]A1) -> [n1]A1", []string{"#[2 3: 1 2 3 4 5 6]", "#b[3: 1 1 1]"}, "n1=3 r1=[2] A1=bool ", api.OK},
		{"([r1.., n1]int, [n1]A1) -> [n1]A1", []string{"#[2 3: 1 2 3 4 5 6]", "#b[4: 1 1 1 1]"}, "", api.ErrShape},
		{"(A) -> A", []string{"#[: 1]"}, "A=int ", api.OK}, {"(A, A) -> A", []string{"#[: 1]", "#b[: 1]"}, "", api.ErrType}, {"(int) -> int", []string{"#b[: 1]"}, "", api.ErrType}, {"(int) -> int", []string{"#[1: 1]"}, "", api.ErrRank}, {"([n]int) -> int", []string{"#[: 1]"}, "", api.ErrRank}, {"([r.., n]int) -> int", []string{"#[: 1]"}, "", api.ErrRank}, {"([r..]int, [r..]int) -> int", []string{"#[1: 1]", "#[2: 1 1]"}, "", api.ErrRank}, {"([r..]int, [r.., n]int) -> int", []string{"#[1: 1]", "#[1 2: 1 1]"}, "n=2 r=[1] ", api.OK}, {"([n]int, A, A) -> int", []string{"#[: 1]", "#[: 1]", "#b[: 1]"}, "", api.ErrRank},
		{"([2n]int) -> int", []string{"#[4: 1 1 1 1]"}, "n=2 ", api.OK}, {"([2n]int) -> int", []string{"#[3: 1 1 1]"}, "", api.ErrShape}, {"([m+n]int) -> int", []string{"#[3: 1 1 1]"}, "", api.ErrAmbiguous}, {"([m+n, n]int) -> int", []string{"#[3 2: 1 1 1 1 1 1]"}, "m=1 n=2 ", api.OK}, {"([2m+2n]int) -> int", []string{"#[4: 1 1 1 1]"}, "", api.ErrAmbiguous}, {"([n]int) -> [k]int", []string{"#[1: 1]"}, "", api.ErrAmbiguous}, {"([n]int) -> [r..]int", []string{"#[1: 1]"}, "", api.ErrAmbiguous}, {"([n]int) -> A", []string{"#[1: 1]"}, "", api.ErrAmbiguous}, {"([n]int) -> int where k", []string{"#[1: 1]"}, "", api.ErrAmbiguous},
		{"([n]int) -> int where n-2", []string{"#[1: 1]"}, "", api.ErrRange}, {"([n]int) -> int where n-1", []string{"#[1: 1]"}, "n=1 ", api.OK}, {"([n]int) -> int where 1000n-1, 1000000n", []string{"#[2: 1 1]"}, "", api.ErrLimit}, {"([n]int) -> int where n-3, 1000000n", []string{"#[2: 1 1]"}, "", api.ErrRange}, {"([n-1000000]int) -> int", []string{"#[1: 1]"}, "", api.ErrLimit}, {"([n-1000000]int, A, A) -> int", []string{"#[1: 1]", "#[: 1]", "#b[: 1]"}, "", api.ErrLimit}, {"([n-5]int) -> int", []string{"#[1: 1]"}, "n=6 ", api.OK}, {"([n+5]int) -> int", []string{"#[1: 1]"}, "n=-4 ", api.OK},
		{"([_1]int) -> int", []string{"#[1: 1]"}, "", api.ErrArg}, {"([n]int) -> int where _1", []string{"#[1: 1]"}, "", api.ErrArg}, {"([n]int) -> int", nil, "", api.ErrArg}, {"() -> int where -1", nil, "", api.ErrRange}, {"() -> int", nil, "", api.OK},
	} {
		binds, e := exec.Binds(scheme(c.scheme), arrays(c.inputs...))
		s := ""
		for _, b := range binds {
			row, _ := shape.Print(b.Row)
			s += b.Var + "=" + []string{"", linear.Print(b.Dim), row, b.Elem}[b.Kind] + " "
		}
		if s != c.want || e != c.e {
			t.Errorf("%d: %s %d", i, s, e)
		}
		for j, p := range scheme(c.scheme).Params {
			under, _ := types.Subst(p, binds)
			dims, _ := shape.Eval(under.Shape, nil)
			if a := arrays(c.inputs...)[min(j, max(len(c.inputs)-1, 0)):]; e == api.OK && (under.Elem != a[0].Elem || !slices.Equal(dims, a[0].Dims)) {
				t.Errorf("%d: %v", i, under)
			}
		}
	}
	bad := arrays("#[1: 1]")
	bad[0].Data[0] = 1 << 40
	if _, e := exec.Binds(scheme("([n]int) -> int"), bad); e != api.ErrArg {
		t.Errorf("%d", e)
	}
	if _, e := exec.Binds(api.Scheme{}, nil); e != api.ErrArg {
		t.Errorf("%d", e)
	}
}

func TestRun(t *testing.T) { // P37.1, P37.2, P37.3
	for _, c := range []struct {
		text   string
		inputs []string
		want   string
	}{
		{"def f(x: [n]int) = fold(add, 0, x)", []string{"#[3: 1 2 3]"}, "#[: 6]"},
		{"def f(y) = sum(y) def sum(x: [n]int) = fold(add, 0, x)", []string{"#[2 2: 1 2 3 4]"}, "#[2: 3 7]"},
		{"def f(y: [k, n]int) = sum(y) def sum(x: [n]int) = fold(add, 0, x)", []string{"#[0 2:]"}, "#[0:]"},
		{"def f(x) = x + 1", []string{"#[2 2: 1 2 3 4]"}, "#[2 2: 2 3 4 5]"},
		{"def f(x) = [x, x] - (let x = x * 2 in [x, 7])", []string{"#[: 5]"}, "#[2: -5 -2]"},
		{"def f(x: [n, m]int) = size[2n-m+1] * #[2: 1 2]", []string{"#[2 3: 1 2 3 4 5 6]"}, "#[2: 2 4]"},
		{"def f(x: [n]int) = size[1000000n]", []string{"#[2: 0 0]"}, "limit"},
		{"def f(x: [n]int) = size[500000n]", []string{"#[2: 0 0]"}, "#[: 1000000]"},
		{"def f(x: [n]int, i: [k]int) = index(x, i) + index(x, 0)", []string{"#[3: 5 6 7]", "#[2: 0 3]"}, "#[2: 10 5] 1"},
		{"def f(x: [n]int, i: [k]int) = update(x, i, 9)", []string{"#[3: 5 6 7]", "#[2: 1 -1]"}, "#[2 3: 5 9 7 5 6 7] 1"},
		{"def a(x: [n]int) = index(x, 5) def f(x: [n]int) = index(x, 9) + a(x) * index(x, 8)", []string{"#[1: 1]"}, "#[: 0] 1 2 3"},
		{"def f(x: [n, m]int) = scan(sub, x)", []string{"#[2 3: 1 2 3 4 5 6]"}, "#[2 3: 1 -1 -4 4 -1 -7]"},
		{"def f(x: [n]int) = scan(sub, x)", []string{"#[0:]"}, "#[0:]"},
		{"def s(a: int, b: int) = a * 3 - b def f(x) = fold(s, 1, x)", []string{"#[2: 1 2]"}, "#[: 4]"},
		{"def id(x) = x def f(x) = id@(1)(x)", []string{"#[0 2:]"}, "#[0 2:]"},
		{"def f(x, y) = x + y", []string{"#[2: 1 2]", "#[: 3]"}, "rank"},
		{"def f(x: [n]int, y: [n]int) = x", []string{"#[1: 1]", "#[2: 1 1]"}, "shape"},
		{"def f(x: [n]int) = take[3](x)", []string{"#[2: 1 1]"}, "range"},
		{"def f(x: [n]int) = chunk{2}(append(x, x))", []string{"#[1: 1]"}, "#[1 2: 1 1]"},
		{"def f(x: [n]int) = fill[4096](x)", []string{"#[2: 1 2]"}, "limit"},
		{"def f(x: [n]int) = append(x, fill[4096](0))", []string{"#[2: 1 2]"}, "range"},
		{"def f() = #b[2: 0 1]", nil, "#b[2: 0 1]"},
		{"def f(x: int) = let a = fill[4096](0) in fold(add, 0, [0" + strings.Repeat(", index(a, 0)", 12) + "])", []string{"#[: 1]"}, "limit"},
	} {
		l := exec.Number(elaborated(c.text))
		if got := show(exec.Run(l, "m.f", arrays(c.inputs...))); got != c.want {
			t.Errorf("%s: %s, not %s", c.text, got, c.want)
		}
		p, _, _ := infer.All(program(c.text))
		if got := show(eval.Run(p, "m.f", arrays(c.inputs...))); !slices.Contains([]string{"limit", "range", "rank", "shape"}, c.want) && got != c.want {
			t.Errorf("%s: layer 36 says %s", c.text, got)
		}
		_, violated, _ := exec.Run(elaborated(c.text), "m.f", arrays(c.inputs...))
		if violated != nil {
			t.Errorf("%s: checks without numbers", c.text)
		}
	}
}

func TestReady(t *testing.T) { // P37.1
	l := elaborated("def f(x: [n]int) = let y = x in fold(add, 0, [y, index(x, 0)]) def g(x) = f(x)")
	if !exec.Ready(l) || !exec.Ready(nil) {
		t.Error("ready lists")
	}
	for i, f := range []func(l []api.Typed) []api.Typed{
		func(l []api.Typed) []api.Typed { return slices.Repeat(l, 31) }, func(l []api.Typed) []api.Typed { return append(l, l[0]) }, func(l []api.Typed) []api.Typed { l[0].Name = "f"; return l }, func(l []api.Typed) []api.Typed { l[0].Scheme.Result.Elem = "x"; return l }, func(l []api.Typed) []api.Typed { l[0].Params = nil; return l }, func(l []api.Typed) []api.Typed {
			l[0].Params = []string{"x", "x"}
			l[0].Scheme.Params = append(l[0].Scheme.Params, l[0].Scheme.Params...)
			return l
		}, func(l []api.Typed) []api.Typed { l[0].Body.Kind = 0; return l }, func(l []api.Typed) []api.Typed { l[0].Body.Type.Elem = "x"; return l }, func(l []api.Typed) []api.Typed { l[0].Body.Frame.Row = "R"; return l }, func(l []api.Typed) []api.Typed { l[1].Body.Framed = []bool{true, false}; return l }, func(l []api.Typed) []api.Typed { l[1].Body.Inst = append(l[1].Body.Inst, l[1].Body.Inst...); return l }, func(l []api.Typed) []api.Typed { l[0].Body.Check = -1; return l }, func(l []api.Typed) []api.Typed { l[0].Body.Kids[0].Name = "z"; return l }, func(l []api.Typed) []api.Typed { l[0].Body.Kids[0].Name = "y"; return l }, func(l []api.Typed) []api.Typed { l[1].Body.Name = "m.g"; return l }, func(l []api.Typed) []api.Typed { l[1].Body.Name = "pack"; return l }, func(l []api.Typed) []api.Typed { l[1].Body.Name = "const"; return l }, func(l []api.Typed) []api.Typed { l[1].Body.Kids = append(l[1].Body.Kids, l[1].Body.Kids...); return l }, func(l []api.Typed) []api.Typed { slices.Reverse(l); return l },
	} {
		if wrong := f(clone.Each(l, clone.Typed)); exec.Ready(wrong) {
			t.Errorf("%d", i)
		} else if _, _, e := exec.Run(wrong, "m.f", arrays("#[1: 1]")); e != api.ErrArg {
			t.Errorf("%d: %d", i, e)
		}
	}
	bad := arrays("#[1: 1]")
	bad[0].Data[0] = 1 << 40
	for i, c := range []struct {
		name   string
		inputs []api.Array
		e      api.Errno
	}{
		{"m.z", bad, api.ErrArg}, {"m.z", nil, api.ErrName}, {"m.f", nil, api.ErrArg}, {"m.f", arrays("#[: 1]"), api.ErrRank},
	} {
		if _, _, e := exec.Run(l, c.name, c.inputs); e != c.e {
			t.Errorf("%d: %d", i, e)
		}
	}
}

func TestWrongTypes(t *testing.T) { // P37.1, P37.3
	base := elaborated("def h(x) = x def f(x: [n]int) = h(x + 1)")
	if base[0].Name != "m.h" {
		t.Fatal(base[0].Name)
	}
	n := func(s string) api.Linear { l, _ := linear.Parse(s); return l }
	for i, c := range []struct {
		f func(l []api.Typed)
		e api.Errno
	}{
		{func(l []api.Typed) {}, api.OK},
		{func(l []api.Typed) { l[1].Body.Type.Elem = "bool" }, api.ErrType},
		{func(l []api.Typed) { l[1].Body.Type.Shape.Dims[0] = n("n1+1") }, api.ErrShape},
		{func(l []api.Typed) { l[1].Body.Type.Shape.Dims[0] = n("n2") }, api.ErrAmbiguous},
		{func(l []api.Typed) { l[1].Body.Type.Shape.Row = "r9" }, api.ErrAmbiguous},
		{func(l []api.Typed) { l[1].Body.Type.Elem = "A9" }, api.ErrAmbiguous},
		{func(l []api.Typed) { l[1].Body.Type.Shape.Dims[0] = n("n1-3") }, api.ErrRange},
		{func(l []api.Typed) { l[1].Body.Type.Shape.Dims[0] = n("5000n1") }, api.ErrRange},
		{func(l []api.Typed) { l[1].Body.Type.Shape.Dims[0] = n("1000000n1") }, api.ErrLimit},
		{func(l []api.Typed) { l[1].Body.Inst = nil }, api.ErrAmbiguous},
		{func(l []api.Typed) { l[1].Body.Inst[0].Row.Dims[0] = n("n2") }, api.ErrAmbiguous},
		{func(l []api.Typed) { l[1].Body.Kids[0].Frame.Dims[0] = n("3") }, api.ErrShape},
		{func(l []api.Typed) { l[1].Body.Kids[0].Frame.Dims = nil }, api.ErrRank},
		{func(l []api.Typed) { l[1].Body.Kids[0].Framed = nil }, api.ErrRank},
		{func(l []api.Typed) { l[0].Body.Type.Elem = "A9" }, api.ErrAmbiguous},
	} {
		l := clone.Each(base, clone.Typed)
		c.f(l)
		if _, _, e := exec.Run(l, "m.f", arrays("#[2: 1 2]")); e != c.e {
			t.Errorf("%d: %d", i, e)
		}
	}
}

func TestNumber(t *testing.T) { // P37.4
	text := "def a(x: [n]int) = index(x, 0) def b(x) = x def c(x: [n]int) = update(x, index(x, 1), 2) def d(x) = a(x)"
	l := exec.Number(elaborated(text))
	p, _, _ := infer.All(program(text))
	for _, d := range l {
		first, _ := eval.First(p, d.Name)
		for n := range elaborate.Preorder(d.Body) {
			if n.Name == "index" || n.Name == "update" {
				if n.Check != first {
					t.Errorf("%s: %d", d.Name, n.Check)
				}
				first++
			}
		}
	}
	odd := []api.Typed{{Body: api.Node{Check: 9, Kind: api.TermCall, Name: "index", Certs: make([]api.Cert, 1), Kids: []api.Node{{Kind: api.TermVar, Name: "update", Check: 5}}}}}
	got := exec.Number(odd)
	if got[0].Body.Check != 1 || got[0].Body.Certs != nil || got[0].Body.Kids[0].Check != 5 || odd[0].Body.Check != 9 {
		t.Errorf("%v", got)
	}
}
