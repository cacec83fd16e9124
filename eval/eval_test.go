package eval_test

import (
	"fmt"
	"slices"
	"strings"
	"testing"

	"framewise/api"
	"framewise/array"
	"framewise/eval"
	"framewise/infer"
	"framewise/parser"
	"framewise/resolve"
	"framewise/types"
)

func program(text string) api.Program {
	m, at, e := parser.Parse("module m " + text)
	if e != api.OK {
		panic(fmt.Sprint(text, at, e))
	}
	p, fault, e := resolve.Resolve([]api.Module{m})
	if e != api.OK {
		panic(fmt.Sprint(text, fault, e))
	}
	return p
}

// ready returns a program with the schemes that are inferred, or those that are given.
func ready(text string, schemes ...string) api.Program {
	p := program(text)
	for _, s := range schemes {
		x, e := types.ParseScheme(s)
		if e != api.OK {
			panic(s)
		}
		p.Schemes = append(p.Schemes, x)
	}
	if len(schemes) == 0 {
		p, _, _ = infer.All(p)
	}
	return p
}

func arrays(texts ...string) []api.Array {
	var l []api.Array
	for _, s := range texts {
		a, e := array.Parse(s)
		if e != api.OK {
			panic(s)
		}
		l = append(l, a)
	}
	return l
}

func run(p api.Program, name string, inputs ...string) string {
	out, violated, e := eval.Run(p, name, arrays(inputs...))
	if e != api.OK {
		if out.Elem != "" || violated != nil {
			return "an error with more"
		}
		return api.Name(e)
	}
	s, f := array.Print(out)
	if f != api.OK {
		return "an array that is not valid"
	}
	for _, n := range violated {
		s += fmt.Sprint(" ", n)
	}
	return s
}

func TestRun(t *testing.T) { // P36.1
	for _, c := range []struct {
		text   string
		inputs []string
		want   string
	}{
		{"def f(x: [n]int) = fold(add, 0, x)", []string{"#[3: 1 2 3]"}, "#[: 6]"},
		{"def f(y) = sum(y) def sum(x: [n]int) = fold(add, 0, x)", []string{"#[2 2: 1 2 3 4]"}, "#[2: 3 7]"},
		{"def f(x) = x + 1", []string{"#[2 2: 1 2 3 4]"}, "#[2 2: 2 3 4 5]"},
		{"def f(x, y) = [x, y] - (let x = y in [x, 7])", []string{"#[: 5]", "#[: 9]"}, "#[2: -4 2]"},
		{"def f(x: [n, m]int) = size[2n-m+1] * #[2: 1 2]", []string{"#[2 3: 1 2 3 4 5 6]"}, "#[2: 2 4]"},
		{"def f(x: [n]int) = size[1000000n]", []string{"#[4096:" + strings.Repeat(" 0", 4096) + "]"}, "range"},
		{"def f(x: [n]int, i) = index(x, i) + index(x, 0)", []string{"#[3: 5 6 7]", "#[2: 0 3]"}, "#[2: 10 5] 1"},
		{"def f(x: [n]int, i) = update(x, i, 9)", []string{"#[3: 5 6 7]", "#[2: 1 -1]"}, "#[2 3: 5 9 7 5 6 7] 1"},
		{"def a(x: [n]int) = index(x, 5) def f(x) = index(x, 9) + a(x) * index(x, 8)", []string{"#[1: 1]"}, "#[: 0] 1 2 3"},
		{"def f(x) = scan(sub, x)", []string{"#[2 3: 1 2 3 4 5 6]"}, "#[2 3: 1 -1 -4 4 -1 -7]"},
		{"def f(x) = scan(sub, x)", []string{"#[0:]"}, "#[0:]"},
		{"def f(x) = fold(xor, false, x)", []string{"#b[2 0:]"}, "#b[2: 0 0]"},
		{"def s(a: int, b: int) = a * 3 - b def f(x) = fold(s, 1, x)", []string{"#[2: 1 2]"}, "#[: 4]"},
		{"def id(x) = x def f(x) = id@(1)(x)", []string{"#[0 2:]"}, "#[0 2:]"},
		{"def sum(x: [n]int) = fold(add, 0, x) def f(x) = sum(x)", []string{"#[0 4:]"}, "#[0:]"},
		{"def a(x: [n]int) = index(x, 9) def f(x) = a(x)", []string{"#[0 4:]"}, "#[0:]"},
		{"def f(x, y) = x + y", []string{"#[2: 1 2]", "#[3: 1 2 3]"}, "shape"},
		{"def f(x, y) = x + y", []string{"#[2: 1 2]", "#[2 1: 1 2]"}, "rank"},
		{"def f(x, y) = x + y", []string{"#[2: 1 2]", "#b[2: 1 1]"}, "type"},
		{"def f(x, y) = x + y", []string{"#[: 1]", "#[2: 1 1]"}, "#[2: 2 2]"},
		{"def f(x: [n]int) = take[n](x)", []string{"#b[2: 1 1]"}, "type"},
		{"def f(x: [n]int) = take[n](x)", []string{"#[: 1]"}, "rank"},
		{"def f(x: [n]int) = take[n](x)", []string{"#[1 1: 1]"}, "rank"},
		{"def f(x: [r.., n]int) = x", []string{"#[: 1]"}, "rank"},
		{"def f(x: [r.., n]int) = size[n]", []string{"#[2 3: 1 1 1 1 1 1]"}, "#[: 3]"},
		{"def f(x: [n, n]int) = x", []string{"#[1 2: 1 1]"}, "shape"},
		{"def f(x: [n]int, y: [n]int) = x", []string{"#[1: 1]", "#[2: 1 1]"}, "shape"},
		{"def f(x: [n+1]int, y: [n]int) = x", []string{"#[2: 1 1]", "#[2: 1 1]"}, "shape"},
		{"def f(x: [n+1]int, y: [n]int) = x", []string{"#[3: 1 1 1]", "#[2: 1 1]"}, "#[3: 1 1 1]"},
		{"def f(x: [k+1]int, y: [n]bool) = x", []string{"#[3: 1 1 1]", "#[2: 1 1]"}, "type"},
		{"def f(x: [3]int) = x", []string{"#[2: 1 1]"}, "shape"},
		{"def f(x: [2n]int) = x", []string{"#[3: 1 1 1]"}, "#[3: 1 1 1]"},
		{"def f(x) = take[3](x)", []string{"#[2: 1 1]"}, "range"},
		{"def f(x) = chunk{2}(x)", []string{"#[3: 1 1 1]"}, "shape"},
		{"def f(x) = fill[4096](x)", []string{"#[2: 1 2]"}, "limit"},
		{"def f() = #b[2: 0 1]", nil, "#b[2: 0 1]"},
	} {
		p := ready(c.text)
		if len(p.Schemes) < len(p.Defs) {
			t.Fatalf("%s: no scheme", c.text)
		}
		if got := run(p, "m.f", c.inputs...); got != c.want {
			t.Errorf("%s: %s, not %s", c.text, got, c.want)
		}
	}
}

func TestSchemes(t *testing.T) { // P36.1: schemes need not be those that are inferred
	for i, c := range []struct {
		text, scheme string
		inputs       []string
		want         string
	}{
		{"def a(x) = [x, x] def f(x) = a(x)", "(int) -> int", []string{"#[2: 1 2]"}, "#[2 2: 1 1 2 2]"},
		{"def a(x) = [x, x] def f(x) = a(x)", "([r..]int) -> int", []string{"#[2: 1 2]"}, "#[2 2: 1 1 2 2]"},
		{"def a(x) = reverse(x) def f(x) = a@(1)(x)", "([r..]int) -> int", []string{"#[2 2: 1 2 3 4]"}, "#[2 2: 2 1 4 3]"},
		{"def a(x) = reverse(x) def f(x) = a@(2)(x)", "([r..]int) -> int", []string{"#[2: 1 2]"}, "rank"},
		{"def a(x) = reverse(x) def f(x) = a@(1)(x)", "([n, m]int) -> int", []string{"#[2 2: 1 2 3 4]"}, "rank"},
		{"def a(x) = reverse(x) def f(x) = a@(1)(x)", "([n]int) -> int", []string{"#[2 2: 1 2 3 4]"}, "#[2 2: 2 1 4 3]"},
		{"def a(x) = reverse(x) def f(x) = a[2](x)", "([n]int) -> int", []string{"#[2: 1 2]"}, "arg"},
		{"def a(x) = reverse(x) def f(x) = a{2}(x)", "([n]int) -> int", []string{"#[2: 1 2]"}, "arg"},
		{"def a(x) = reverse(x) def f(x) = a(x, x)", "([n]int) -> int", []string{"#[2: 1 2]"}, "arg"},
		{"def a(x) = x def f(x) = add@(0, 0)(x, 1)", "([n]int) -> int", []string{"#[2: 1 2]"}, "#[2: 2 3]"},
		{"def a(x) = x def f(x) = add@(1, 0)(x, 1)", "([n]int) -> int", []string{"#[2: 1 2]"}, "rank"},
		{"def a(x) = x def f(x) = add(x)", "([n]int) -> int", []string{"#[2: 1 2]"}, "arg"},
		{"def a(x) = x def f(x) = add[2](x, x)", "([n]int) -> int", []string{"#[2: 1 2]"}, "arg"},
		{"def a(x) = x def f(x) = add@(1, 1)(x, x + true)", "([n]int) -> int", []string{"#[2: 1 2]"}, "type"},
		{"def a(x, y) = [x, y] def f(x) = fold(a, 1, x)", "(int, int) -> int", []string{"#[2: 1 2]"}, "type"},
		{"def a(x, y) = x < y def f(x) = fold(a, 1, x)", "(int, int) -> int", []string{"#[2: 1 2]"}, "type"},
		{"def a(x, y) = x < y def f(x) = fold(a, 1, x)", "(int, int) -> int", []string{"#[0:]"}, "#[: 1]"},
		{"def a(x) = x def f(x) = fold(a, 1, x)", "(int) -> int", []string{"#[1: 1]"}, "arg"},
		{"def a(x) = x def f(x) = fold(take, 1, x)", "(int) -> int", []string{"#[1: 1]"}, "arg"},
		{"def a(x) = x def f(x) = fold(index, 1, x)", "(int) -> int", []string{"#[1: 1]"}, "rank"},
		{"def a(x) = x def f(x) = fold(add, x, 1)", "(int) -> int", []string{"#[1: 1]"}, "rank"},
		{"def a(x: [n]int, y) = fold(add, y, x) def f(x, y) = a(x, y)", "([n]int, int) -> int", []string{"#[2 2: 1 2 3 4]", "#[2: 10 20]"}, "#[2: 13 27]"},
		{"def a(x: [n]int, y) = iota[n]() def f(x, y) = a(x, y)", "([n]int, int) -> int", []string{"#[2 3: 1 2 3 4 5 6]", "#[0:]"}, "shape"},
		{"def a(x) = fill[3](x) def f(x) = a(x)", "(int) -> int", []string{"#[0:]"}, "#[0 3:]"},
	} {
		p := ready(c.text, c.scheme)
		p.Schemes = append(p.Schemes, api.Scheme{Params: make([]api.Type, len(p.Defs[1].Params))})
		if got := run(p, "m.f", c.inputs...); got != c.want {
			t.Errorf("%d: %s: %s, not %s", i, c.text, got, c.want)
		}
	}
}

func TestErrors(t *testing.T) { // P36.1
	p := ready("def f(x) = x def g(x) = f(x)")
	bad := arrays("#[1: 5]")
	bad[0].Data[0] = 1 << 40
	for i, c := range []struct {
		p      api.Program
		name   string
		inputs []api.Array
		e      api.Errno
	}{
		{api.Program{Defs: make([]api.Def, 1)}, "m.z", nil, api.ErrArg}, {p, "m.z", bad, api.ErrArg}, {p, "m.z", nil, api.ErrName}, {api.Program{Defs: p.Defs}, "m.f", nil, api.ErrState}, {api.Program{Defs: p.Defs, Schemes: p.Schemes[:1]}, "m.g", nil, api.ErrState}, {api.Program{Defs: p.Defs, Schemes: p.Schemes[:1]}, "m.f", arrays("#[: 1]"), api.OK}, {api.Program{Defs: p.Defs, Schemes: []api.Scheme{{}, p.Schemes[0]}}, "m.g", nil, api.ErrState}, {p, "m.g", nil, api.ErrArg}, {p, "m.g", arrays("#[: 1]", "#[: 1]"), api.ErrArg},
	} {
		if _, _, e := eval.Run(c.p, c.name, c.inputs); e != c.e {
			t.Errorf("%d: %d", i, e)
		}
	}
	p = ready("def a(x: [n]int) = index(x, 0) def b(x) = x def c(x: [n]int) = update(x, index(x, 1), 2) def d(x) = a(x)")
	for name, want := range map[string]int{"m.a": 1, "m.b": 2, "m.c": 2, "m.d": 4, "m.z": 0} {
		if n, ok := eval.First(p, name); n != want || ok != (want > 0) {
			t.Errorf("%s: %d", name, n)
		}
	}
}

func TestWork(t *testing.T) { // P36.1
	// The first fill and the lets count 4103, the second one 3 and its length, the fold and the pack 33, and each index 4101.
	for length, want := range map[int]string{752: "#[: 0]", 753: "limit"} {
		p := ready(fmt.Sprint("def f(x: int) = let a = fill[4096](0) in let b = fill[", length, "](0) in fold(add, 0, [0", strings.Repeat(", index(a, 0)", 11), "])"))
		if got := run(p, "m.f", "#[: 1]"); got != want {
			t.Errorf("%d: %s", length, got)
		}
	}
	// The nodes of a definition count each time: f5 runs f0 more than 50000 times.
	text := "def f0(x) = x + x "
	for i := 1; i <= 5; i++ {
		text += fmt.Sprintf("def f%d(x) = f%d(x)%s ", i, i-1, strings.Repeat(fmt.Sprintf(" + f%d(x)", i-1), 9))
	}
	p := ready(text)
	if got := run(p, "m.f5", "#[: 1]"); got != "limit" {
		t.Errorf("%s", got)
	}
	if got := run(p, "m.f3", "#[: 1]"); got != "#[: 2000]" {
		t.Errorf("%s", got)
	}
}

func TestLifting(t *testing.T) { // P36.2
	p := ready("def g(x: [n]int, i: int) = index(x, i) * fold(add, 0, x) def f(x, i) = g(x, i)")
	inputs := arrays("#[2 3: 1 2 3 4 5 6]", "#[2: 1 7]")
	whole, violated, e := eval.Run(p, "m.f", inputs)
	var data, all []int
	for i := range 2 {
		cell := api.Array{Elem: "int", Dims: []int{3}, Data: inputs[0].Data[3*i : 3*i+3]}
		a, v, _ := eval.Run(p, "m.g", []api.Array{cell, {Elem: "int", Data: inputs[1].Data[i : i+1]}})
		data, all = append(data, a.Data...), append(all, v...)
	}
	if e != api.OK || !slices.Equal(whole.Data, data) || !slices.Equal(violated, all) {
		t.Errorf("%v %v, not %v %v", whole, violated, data, all)
	}
}

func TestLets(t *testing.T) { // P36.3, P36.4, P36.5
	for _, body := range []string{"x * 2 + index(x, 1)", "fold(max, 0, x)", "[x, index(x, 9)]"} {
		p := ready("def f(x: [n]int) = " + body)
		q := ready("def f(x: [n]int) = let a = " + body + " in let b = x + 1 in a def z(x) = x")
		a, v, e := eval.Run(p, "m.f", arrays("#[2: 3 4]"))
		b, w, f := eval.Run(q, "m.f", arrays("#[2: 3 4]"))
		if !array.Equal(a, b) || !slices.Equal(v, w) || e != api.OK || f != api.OK {
			t.Errorf("%s: %v %v", body, a, b)
		}
		for _, n := range v {
			if first, _ := eval.First(p, "m.f"); n < first || n > 1 {
				t.Errorf("%s: check %d", body, n)
			}
		}
	}
	p := ready("def f(x: [n]int) = x")
	in := arrays("#[2: 3 4]")
	out, _, _ := eval.Run(p, "m.f", in)
	if out.Data[0] = 9; in[0].Data[0] != 3 {
		t.Error("memory is shared")
	}
}
