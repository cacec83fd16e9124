package inline_test

import (
	"fmt"
	"math/rand"
	"slices"
	"strings"
	"testing"

	"framewise/api"
	"framewise/array"
	"framewise/bounds"
	"framewise/clone"
	"framewise/elaborate"
	"framewise/exec"
	"framewise/flat"
	"framewise/inline"
	"framewise/linear"
	"framewise/parser"
	"framewise/reduce"
	"framewise/resolve"
	"framewise/types"
)

func elaborated(text string) []api.Typed {
	m, at, e := parser.Parse("module m " + text)
	if e != api.OK {
		panic(fmt.Sprint(text, at, e))
	}
	p, fault, e := resolve.Resolve([]api.Module{m})
	if e != api.OK {
		panic(fmt.Sprint(text, fault, e))
	}
	l, lines, e := elaborate.All(p)
	if e != api.OK {
		panic(fmt.Sprint(text, lines, e))
	}
	return l
}

func show(f api.Flat) string {
	lines, e := flat.Print(f)
	if e != api.OK {
		return "error"
	}
	s := strings.Join(f.Vars, " ") + "\n"
	for _, w := range f.Where {
		s += linear.Print(w) + " "
	}
	return s + "\n" + strings.Join(lines, "\n")
}

func TestFlatten(t *testing.T) { // P39.1, P39.3
	for _, c := range []struct {
		text, name string
		ranks      []int
		elems      []string
		want       string
	}{
		{"def f(x) = x * x def g(y: [n]int) = f(y)", "m.g", nil, nil, `n1

v0: [n1]int
v1: [n1]int = mul(v0@0, v0@0)
result v1`},
		{"def sum(x: [n]int) = fold(add, 0, x) def rows(y: [k, n]int) = sum(y)", "m.rows", nil, nil, `n1 n2

v0: [n1, n2]int
v1: int = const()
v2: [n1]int = fold(v1, v0@0)
result v2`},
		{"def f(x, y) = select(x, y, y)", "m.f", []int{2}, []string{"bool"}, `r1d1 r1d2

v0: [r1d1, r1d2]bool
v1: [r1d1, r1d2]bool
v2: [r1d1, r1d2]bool = select(v0@0.1, v1@0.1, v1@0.1)
result v2`},
		{"def f(x) = x", "m.f", []int{0}, []string{"int"}, `


v0: int
result v0`},
		{"def c(x: int) = 7 def f(y: [n, m]int) = c(y)", "m.f", nil, nil, `n1 n2

v0: [n1, n2]int
v1: int = const()
v2: [n1, n2]int = min(v1, v1)
result v2`},
		{"def c(x: int, b: [k]bool) = b def f(y: [n]int, b: [k]bool) = c(y, b)", "m.f", nil, nil, `n1 n2

v0: [n1]int
v1: [n2]bool
v2: [n1, n2]bool = and(v1@1, v1@1)
result v2`},
		{"def a(x: int, y: [k]int) = y + 1 def b(x: int, y: [k]int) = x + a(x, y) def f(x: [n]int, y: [k]int) = b(x, y)", "m.f", nil, nil, `n1 n2

v0: [n1]int
v1: [n2]int
v2: int = const()
v3: [n2]int = add(v1@0, v2)
v4: [n1, n2]int = add(v0@0, v3@1)
result v4`},
		{"def f(x: [n]int) = windows[3](x) + size[n-1]", "m.f", nil, nil, `n1
n1-3 n1-2 
v0: [n1]int
v1: [n1-2, 3]int = windows(v0)
v2: int = size()
v3: [n1-2, 3]int = add(v1@0.1, v2)
result v3`},
		{"def f(x: [2n]int, y: [m-1]bool) = chunk{2}(x)", "m.f", nil, nil, `n1 n2
2n1 n2-1 
v0: [2n1]int
v1: [n2-1]bool
v2: [n1, 2]int = chunk(v0)
result v2`},
		{"def s(a: int, b: int) = let c = a * 2 in c - b def f(x) = scan(s, x)", "m.f", []int{1}, nil, `n1 r1d1

v0: [r1d1, n1]int
v1: [r1d1, n1]int = scan(v0@0)
result v1`},
		{"def f(x, y) = let z = [x, y] in [z, z]", "m.f", []int{1}, []string{"int"}, `r1d1

v0: [r1d1]int
v1: [r1d1]int
v2: [r1d1, 2]int = pack(v0@0, v1@0)
v3: [r1d1, 2, 2]int = pack(v2@0.1, v2@0.1)
result v3`},
	} {
		f, e := inline.Flatten(elaborated(c.text), c.name, c.ranks, c.elems)
		if got := show(f); strings.TrimSpace(got) != strings.TrimSpace(c.want) || e != api.OK {
			t.Errorf("%s: %d\n%s", c.text, e, got)
		}
	}
	// Instructions with a check get the whole ambient frame.
	l, _ := bounds.Bound(elaborated("def a(x: [n]int, y: int) = index(x, 0) + y def f(x: [n]int, y: [k]int) = a(x, y)"))
	f, _ := inline.Flatten(l, "m.f", nil, nil)
	want := `n1 n2

v0: [n1]int
v1: [n2]int
v2: int = const()
v3: [n2]int = index(v0, v2)
v4: [n2]int = add(v3@0, v1@0)
result v4`
	if got := show(f); got != want || f.Code[1].Check != 1 {
		t.Errorf("%s", got)
	}
}

func TestErrors(t *testing.T) { // P39.1
	l := elaborated("def f(x, y) = [x, y] def g(x: [n]int) = x")
	for i, c := range []struct {
		l     []api.Typed
		name  string
		ranks []int
		elems []string
		e     api.Errno
	}{
		{append(l, l[0]), "m.z", nil, nil, api.ErrArg}, {l, "m.z", nil, nil, api.ErrName}, {l, "m.f", nil, []string{"int"}, api.ErrRange}, {l, "m.f", []int{1}, nil, api.ErrRange}, {l, "m.f", []int{1, 1}, []string{"int"}, api.ErrRange}, {l, "m.f", []int{-1}, []string{"int"}, api.ErrRange}, {l, "m.f", []int{7}, []string{"int"}, api.ErrRange}, {l, "m.f", []int{1}, []string{"A"}, api.ErrRange}, {l, "m.f", []int{5}, []string{"int"}, api.OK}, {l, "m.f", []int{6}, []string{"int"}, api.ErrLimit}, {l, "m.g", nil, nil, api.OK},
	} {
		if f, e := inline.Flatten(c.l, c.name, c.ranks, c.elems); e != c.e || e != api.OK && f.Results != nil {
			t.Errorf("%d: %d", i, e)
		}
	}
	// A dimension with the name of a row's dimension.
	d := elaborated("def f(x: [r.., n]int) = x")
	binds := []api.Bind{{Kind: api.DimVar, Var: "n1", Dim: linear.Var("r1d1")}}
	d[0].Scheme, _ = types.SubstScheme(d[0].Scheme, binds)
	d[0].Body.Type, _ = types.Subst(d[0].Body.Type, binds)
	if _, e := inline.Flatten(d, "m.f", []int{1}, nil); e != api.ErrExist {
		t.Errorf("%d", e)
	}
	if _, e := inline.Flatten(d, "m.f", []int{0}, nil); e != api.OK {
		t.Errorf("%d", e)
	}
	// More than 400 instructions, and more calls than could be looked at one by one.
	text := "def a0(x) = x + 1 def b0(x) = x "
	for i := 1; i < 20; i++ {
		text += fmt.Sprintf("def a%d(x) = a%d(a%d(x)) def b%d(x) = b%d(b%d(x)) ", i, i-1, i-1, i, i-1, i-1)
	}
	l = elaborated(text)
	if f, e := inline.Flatten(l, "m.a8", []int{1}, nil); e != api.ErrLimit || f.Code != nil {
		t.Errorf("%d", e)
	}
	if f, e := inline.Flatten(l, "m.a7", []int{1}, nil); e != api.OK || len(f.Code) != 256 {
		t.Errorf("%d %d", len(f.Code), e)
	}
	if f, e := inline.Flatten(l, "m.b19", []int{1}, []string{"int"}); e != api.OK || len(f.Code) != 0 {
		t.Errorf("%d %d", len(f.Code), e)
	}
	rows, elems, e := inline.Variables(elaborated("def f(x, y: [n]int) = [x, x] def g(x) = f(x, iota[3]())"), "m.f")
	if !slices.Equal(rows, []string{"r1"}) || !slices.Equal(elems, []string{"A1"}) || e != api.OK {
		t.Errorf("%v %v %d", rows, elems, e)
	}
	if _, _, e := inline.Variables(l, "m.z"); e != api.ErrName {
		t.Errorf("%d", e)
	}
	if _, _, e := inline.Variables(append(l, l[0]), "m.z"); e != api.ErrArg {
		t.Errorf("%d", e)
	}
}

func steps(l []api.Step) string {
	s := ""
	for _, x := range l {
		s += fmt.Sprintf("%s%d%v ", x.Op, x.Num, x.Args)
	}
	return s
}

func TestScalar(t *testing.T) { // P39.1, P39.5
	text := "def a(x: int, y: int) = let z = x + 1 in let w = neg(z) in z * y def b(x: int) = x def c(x: int, y: int) = x def d(x: bool, y: int) = x def e(x: int) = a(b(x), 2) def i(x) = x def g(x: int) = i(x) + i(x) def h(x: [n]int) = x def j(x: int) = index([x], 0) def k(x: int) = j(x) def l(x: int) = #[: 5]"
	l := elaborated(text)
	for name, want := range map[string]string{
		"m.a": "const1[] add0[0 2] neg0[3] mul0[3 1] ", "m.b": "", "m.c": "min0[0 0] ", "m.d": "and0[0 0] ", "m.e": "const2[] const1[] add0[0 2] neg0[3] mul0[3 1] ", "m.g": "add0[0 0] ",
	} {
		code, e := inline.Scalar(l, name)
		if steps(code) != want || e != api.OK {
			t.Errorf("%s: %s %d", name, steps(code), e)
		}
	}
	r := rand.New(rand.NewSource(1))
	for _, name := range []string{"m.a", "m.c", "m.e", "m.g"} {
		code, _ := inline.Scalar(l, name)
		for range 30 {
			args := []int{r.Intn(100), r.Intn(100)}
			if name == "m.e" || name == "m.g" {
				args = args[:1]
			}
			var in []api.Array
			for _, n := range args {
				in = append(in, api.Array{Elem: "int", Data: []int{n}})
			}
			out, _, e := exec.Run(l, name, in)
			if n, ok := reduce.Run(code, args); n != out.Data[0] || !ok || e != api.OK {
				t.Errorf("%s of %v: %d", name, args, n)
			}
		}
	}
	for name, want := range map[string]api.Errno{"m.h": api.ErrState, "m.i": api.ErrState, "m.j": api.ErrState, "m.k": api.ErrState, "m.l": api.ErrState, "m.z": api.ErrName} {
		if code, e := inline.Scalar(l, name); e != want || code != nil {
			t.Errorf("%s: %d", name, e)
		}
	}
	if _, e := inline.Scalar(append(l, l[0]), "m.z"); e != api.ErrArg {
		t.Errorf("%d", e)
	}
	long := func(n int) []api.Typed {
		return elaborated("def f(x: int) = x" + strings.Repeat(" + x", n/2) + " def g(x: int) = f(f(x)) def h(x: int) = index([f(g(x))], 0)")
	}
	if code, e := inline.Scalar(long(60), "m.g"); len(code) != 60 || e != api.OK {
		t.Errorf("%d %d", len(code), e)
	}
	if _, e := inline.Scalar(long(62), "m.g"); e != api.ErrLimit {
		t.Errorf("%d", e)
	}
	if _, e := inline.Scalar(long(62), "m.h"); e != api.ErrLimit {
		t.Errorf("%d", e)
	}
}

func TestMeaning(t *testing.T) { // P39.2, P39.3, P39.4, P39.6
	r := rand.New(rand.NewSource(2))
	for _, text := range []string{
		"def f(x: [n]int, y: [k]int) = a(x, y) def a(x: [n]int, y: int) = index(x, y) * 2 + fold(max, y, x)",
		"def c(x: int, y: [n]int) = reverse(y) def f(x: [k]int, y: [n]int) = c(x, y) - c(x, y)",
		"def s(a: int, b: int) = a * 3 - b def f(x: [k, n]int, z: [k]int) = let y = scan(s, x) in fold(s, 1, y) * z",
		"def p(x: int, v: [n]int) = update(v, x, index(v, x + 1)) def f(x: [k]int, v: [n]int) = transpose(p(x, v))",
		"def w(x: [n]int) = fold(add, 0, windows[1](x)) def f(x: [k, n]int, y: [k]int) = append(w(x), [y, y])",
	} {
		l, _ := bounds.Bound(elaborated(text))
		var d api.Typed
		for _, o := range l {
			if o.Name == "m.f" {
				d = o
			}
		}
		p, e := inline.Flatten(l, "m.f", nil, nil)
		if _, g := flat.Valid(p); e != api.OK || g != api.OK {
			t.Fatalf("%s: %d %d", text, e, g)
		}
		more, _ := inline.Flatten(append(clone.Each(l, clone.Typed), rename(elaborated("def z(x) = x"))...), "m.f", nil, nil)
		if !flat.Equal(p, more) {
			t.Errorf("%s: further definitions", text)
		}
		for range 40 {
			sizes := []api.Value{{Var: "n1", N: r.Intn(4)}, {Var: "n2", N: r.Intn(4)}}
			var in []api.Array
			for _, q := range d.Scheme.Params {
				var dims []int
				for _, x := range q.Shape.Dims {
					n, _ := linear.Eval(x, sizes)
					dims = append(dims, n)
				}
				a, _ := array.Zeros("int", dims)
				for i := range a.Data {
					a.Data[i] = r.Intn(6) - 1
				}
				in = append(in, a)
			}
			want, checks, e := exec.Run(l, "m.f", in)
			if e != api.OK {
				continue
			}
			got, violated, e := flat.Run(p, sizes[:len(p.Vars)], in)
			if e != api.OK || !array.Equal(got[0], want) || !slices.Equal(violated, checks) {
				t.Fatalf("%s of %v: %v %v %d, not %v %v", text, in, got, violated, e, want, checks)
			}
		}
		open := bounds.Checks(l)
		for _, i := range p.Code {
			if i.Check != 0 && !slices.Contains(open, i.Check) {
				t.Errorf("%s: check %d", text, i.Check)
			}
		}
	}
}

// rename gives definitions another module.
func rename(l []api.Typed) []api.Typed {
	for i := range l {
		l[i].Name = "k" + l[i].Name[1:]
	}
	return l
}
