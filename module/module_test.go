package module_test

import (
	"math/rand"
	"slices"
	"strconv"
	"testing"

	"framewise/api"
	"framewise/module"
	"framewise/parser"
	"framewise/printer"
)

func parse(text string) api.Module {
	m, at, e := parser.Parse(text)
	if e != api.OK {
		panic(text + strconv.Itoa(at))
	}
	return m
}

const good = "module m\nimport a, b export f, g\ndef f(x) = g(x) + a.h(x)\ndef g(y: [n]int): [n]int = let z = y in\nfold(f, 0, scan(b.k, z))\ndef h() = pack(1)"

func TestCheck(t *testing.T) { // P28.1, P28.2
	for i, c := range []struct {
		text string
		line int
		e    api.Errno
	}{
		{good, 0, api.OK}, {"module m", 0, api.OK},
		{"module m import m", 0, api.ErrExist}, {"module m import a, b, a", 0, api.ErrExist}, {"module m export f, f def f() = 1", 0, api.ErrExist}, {"module m export f, f\ndef add() = 1", 0, api.ErrExist},
		{"module m\ndef f() = 1\ndef f() = 2", 3, api.ErrExist}, {"module m\ndef add() = 1", 2, api.ErrExist}, {"module m\n\ndef f(add) = 1", 3, api.ErrExist}, {"module m\ndef f(x, y, x) = 1", 2, api.ErrExist}, {"module m\ndef f(x) =\nlet take = x in x", 2, api.ErrExist}, {"module m\ndef f(x) = [1, [let add = x in x]]", 2, api.ErrExist},
		{"module m export g\ndef f(add) = 1", 2, api.ErrExist}, {"module m export g\ndef f() = 1", 0, api.ErrName}, {"module m export add", 0, api.ErrName},
		{"module m def f(f) = let f = f in f(f)", 0, api.OK}, {"module m def m() = 1", 0, api.OK}, {"module m def pack() = 1", 0, api.OK}, {"module m def f(x) = add(q, r)", 0, api.OK},
		{"module m\ndef f(x) = 1\ndef g(add) = 1\ndef f() = 1", 3, api.ErrExist},
	} {
		if line, e := module.Check(parse(c.text)); line != c.line || e != c.e {
			t.Errorf("%d: %d %d", i, line, e)
		}
	}
	bad := parse(good)
	bad.Defs[1].Line, bad.Defs[1].Body.Kind = 77, 0
	bad.Imports = []string{"m"}
	if line, e := module.Check(bad); line != 0 || e != api.ErrArg {
		t.Errorf("%d %d", line, e)
	}
	_, found := module.Find(bad, "f")
	_, e := module.With(bad, bad.Defs[0])
	_, f := module.Without(bad, "f")
	if found || module.Exported(bad, "f") || module.Refs(bad) != nil || module.Uses(bad, "f") != nil || e != api.ErrArg || f != api.ErrArg {
		t.Error("a module that is not right")
	}
}

func TestParts(t *testing.T) { // P28.1
	m := parse(good)
	d, ok := module.Find(m, "g")
	if !ok || d.Name != "g" || d.Line != 4 {
		t.Errorf("%v", d)
	}
	d.Params[0].Type.Shape.Dims[0].Terms[0].Var = "z"
	d.Body.Kids[0].Name = "z"
	if !module.Equal(m, parse(good)) {
		t.Error("memory is shared")
	}
	if _, ok := module.Find(m, "k"); ok {
		t.Error("Find")
	}
	if !module.Exported(m, "f") || module.Exported(m, "h") || module.Exported(m, "k") {
		t.Error("Exported")
	}
	if got := module.Refs(m); !slices.Equal(got, []string{"a.h", "b.k"}) {
		t.Errorf("%v", got)
	}
	for name, want := range map[string][]string{"f": {"g"}, "g": {"f"}, "h": nil, "k": nil} {
		if got := module.Uses(m, name); !slices.Equal(got, want) {
			t.Errorf("%s: %v", name, got)
		}
	}
	for i, f := range []func(*api.Module){
		func(m *api.Module) { m.Name = "k" }, func(m *api.Module) { m.Imports = m.Imports[:1] }, func(m *api.Module) { m.Exports[0] = "g" }, func(m *api.Module) { m.Defs = m.Defs[:2] }, func(m *api.Module) { m.Defs[0].Name = "k" }, func(m *api.Module) { m.Defs[0].Params[0].Name = "k" }, func(m *api.Module) { m.Defs[1].Params[0].Given = false }, func(m *api.Module) { m.Defs[1].Params[0].Type.Elem = "bool" }, func(m *api.Module) { m.Defs[1].Given = false }, func(m *api.Module) { m.Defs[1].Result.Elem = "bool" }, func(m *api.Module) { m.Defs[0].Body.Name = "sub" },
	} {
		other := parse(good)
		if f(&other); module.Equal(m, other) {
			t.Errorf("%d", i)
		}
	}
	if !module.Equal(api.Module{Imports: []string{}}, api.Module{Defs: []api.Def{}}) {
		t.Error("empty lists")
	}
}

func TestChanging(t *testing.T) { // P28.3
	m := parse(good)
	d := parse("module m def k(x) = f(x)").Defs[0]
	with, e := module.With(m, d)
	if got, ok := module.Find(with, "k"); e != api.OK || !ok || got.Name != "k" || len(with.Defs) != 4 || with.Defs[3].Name != "k" {
		t.Errorf("%v %d", with, e)
	}
	if back, e := module.Without(with, "k"); !module.Equal(back, m) || e != api.OK {
		t.Errorf("%v %d", back, e)
	}
	d.Name = "g"
	with, e = module.With(m, d)
	if e != api.OK || len(with.Defs) != 3 || with.Defs[1].Params[0].Name != "x" || with.Defs[0].Name != "f" || with.Defs[2].Name != "h" {
		t.Errorf("%v %d", with, e)
	}
	without, e := module.Without(m, "f")
	if e != api.OK || !slices.Equal(without.Exports, []string{"g"}) || len(without.Defs) != 2 {
		t.Errorf("%v %d", without, e)
	}
	if line, e := module.Check(without); line != 0 || e != api.OK {
		t.Error("a module without a definition is right")
	}
	if _, e := module.Without(m, "k"); e != api.ErrNone {
		t.Errorf("%d", e)
	}
	for name, want := range map[string]api.Errno{"add": api.ErrExist, "in": api.ErrArg, "a.b": api.ErrArg} {
		d.Name = name
		if w, e := module.With(m, d); e != want || w.Name != "" {
			t.Errorf("%s: %d", name, e)
		}
	}
	if !module.Equal(m, parse(good)) {
		t.Error("the module was changed")
	}
}

func TestLines(t *testing.T) { // P28.4, P28.5
	r := rand.New(rand.NewSource(1))
	for _, text := range []string{good, "module m\ndef f(x) = f(x)\ndef f(y) = 1", "module m export g\ndef f(x) = 1", "module  m\ndef f(add) = 1"} {
		m := parse(text)
		other := parse(text)
		for i := range other.Defs {
			other.Defs[i].Line = r.Intn(100)
			other.Defs[i].Body.Line = r.Intn(100)
		}
		_, e := module.Check(m)
		if _, f := module.Check(other); e != f || !module.Equal(m, other) {
			t.Errorf("%s: %d %d", text, e, f)
		}
		for _, d := range m.Defs {
			if !slices.Equal(module.Uses(m, d.Name), module.Uses(other, d.Name)) {
				t.Errorf("%s", text)
			}
		}
		formatted, _, _ := printer.Format(text)
		again := parse(formatted)
		if _, f := module.Check(again); !module.Equal(m, again) || e != f {
			t.Errorf("%s", formatted)
		}
	}
}
