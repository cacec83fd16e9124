package prims_test

import (
	"slices"
	"testing"

	"framewise/api"
	"framewise/element"
	"framewise/linear"
	"framewise/prims"
	"framewise/types"
)

func text(s api.Scheme) string {
	t, e := types.PrintScheme(s)
	if e != api.OK {
		return "error"
	}
	return t
}

func lin(s string) api.Linear {
	l, e := linear.Parse(s)
	if e != api.OK {
		panic(s)
	}
	return l
}

func dim(v, d string) api.Bind { return api.Bind{Kind: api.DimVar, Var: v, Dim: lin(d)} }

func elem(v string) api.Bind { return api.Bind{Kind: api.ElemVar, Var: "A", Elem: v} }

func TestTable(t *testing.T) { // P23.1, P23.2
	want := map[string]string{
		"add": "(int, int) -> int", "sub": "(int, int) -> int", "mul": "(int, int) -> int", "div": "(int, int) -> int", "mod": "(int, int) -> int", "min": "(int, int) -> int", "max": "(int, int) -> int",
		"neg": "(int) -> int", "abs": "(int) -> int", "sign": "(int) -> int", "lt": "(int, int) -> bool", "le": "(int, int) -> bool", "gt": "(int, int) -> bool", "ge": "(int, int) -> bool", "eq": "(A, A) -> bool", "ne": "(A, A) -> bool", "and": "(bool, bool) -> bool", "or": "(bool, bool) -> bool", "xor": "(bool, bool) -> bool", "not": "(bool) -> bool", "select": "(bool, A, A) -> A", "toint": "(bool) -> int",
		"iota": "() -> [k]int where k", "fill": "(A) -> [k]A where k", "take": "([n]A) -> [k]A where k, -k+n", "drop": "([n]A) -> [-k+n]A where k, -k+n", "reverse": "([n]A) -> [n]A", "append": "([n]A, [m]A) -> [m+n]A", "transpose": "([n, m]A) -> [m, n]A", "diagonal": "([n, n]A) -> [n]A", "windows": "([n]A) -> [-k+n+1, k]A where k, -k+n", "chunk": "([n]A) -> [n, 1]A", "index": "([n]A, int) -> A", "update": "([n]A, int, A) -> [n]A",
	}
	names := prims.Names()
	if len(names) != len(want) || !slices.IsSorted(names) {
		t.Errorf("%v", names)
	}
	for _, name := range names {
		p, ok := prims.Sig(name)
		if !ok || text(p.Scheme) != want[name] || p.Name != name {
			t.Errorf("%s: %s", name, text(p.Scheme))
		}
		if p.Scalar != slices.Contains(element.Ops(), name) || p.Literal != (name == "chunk") || p.Checked != (name == "index" || name == "update") {
			t.Errorf("%s: %v", name, p)
		}
		params := types.Vars(api.Scheme{Params: p.Scheme.Params, Result: api.Type{Elem: "int"}})
		for _, v := range types.Vars(p.Scheme) {
			isParam := slices.ContainsFunc(params, func(b api.Bind) bool { return b.Kind == v.Kind && b.Var == v.Var })
			if v.Kind == api.RowVar || !isParam && !slices.Equal(p.Sizes, []string{v.Var}) {
				t.Errorf("%s: %s", name, v.Var)
			}
			if p.Scalar && v.Kind == api.DimVar {
				t.Errorf("%s has a dimension", name)
			}
		}
	}
	for _, name := range []string{"", "pack", "fold", "const", "size", "Add", "m.add"} {
		if p, ok := prims.Sig(name); ok || p.Name != "" {
			t.Errorf("%q", name)
		}
	}
}

func TestScheme(t *testing.T) { // P23.1
	for i, c := range []struct {
		name string
		num  int
		want string
		e    api.Errno
	}{
		{"chunk", 3, "([3n]A) -> [n, 3]A", api.OK}, {"chunk", 64, "([64n]A) -> [n, 64]A", api.OK}, {"chunk", 0, "error", api.ErrArg}, {"chunk", 65, "error", api.ErrArg}, {"chunk", -1, "error", api.ErrArg}, {"add", 0, "(int, int) -> int", api.OK}, {"add", 1, "error", api.ErrArg}, {"plus", 1, "error", api.ErrName},
	} {
		if s, e := prims.Scheme(c.name, c.num); text(s) != c.want || e != c.e {
			t.Errorf("%d: %s %d", i, text(s), e)
		}
	}
	a, _ := prims.Scheme("take", 0)
	a.Params[0].Shape.Dims[0].Terms[0].Var = "z"
	if b, _ := prims.Scheme("take", 0); text(b) != "([n]A) -> [k]A where k, -k+n" {
		t.Error("memory is shared")
	}
}

func TestUnder(t *testing.T) { // P23.1, P23.5
	for i, c := range []struct {
		name  string
		sizes []string
		num   int
		binds []api.Bind
		want  string
		e     api.Errno
	}{
		{"take", []string{"2"}, 0, []api.Bind{dim("n", "p+2"), elem("int")}, "([p+2]int) -> [2]int where 2, p", api.OK},
		{"take", []string{"n"}, 0, []api.Bind{elem("A"), dim("n", "k")}, "([k]A) -> [n]A where n, k-n", api.OK},
		{"take", nil, 0, []api.Bind{dim("n", "p+2"), elem("int")}, "error", api.ErrArg},
		{"take", []string{"2", "3"}, 0, []api.Bind{dim("n", "p+2"), elem("int")}, "error", api.ErrArg},
		{"take", []string{"2"}, 0, []api.Bind{dim("n", "p+2")}, "error", api.ErrArg},
		{"take", []string{"2"}, 0, []api.Bind{dim("n", "p+2"), elem("int"), dim("k", "1")}, "error", api.ErrArg},
		{"take", []string{"2"}, 0, []api.Bind{dim("n", "p+2"), dim("n", "p+2")}, "error", api.ErrArg},
		{"take", nil, 0, []api.Bind{dim("n", "p+2"), elem("int"), dim("k", "1")}, "error", api.ErrArg},
		{"take", []string{"2"}, 0, []api.Bind{dim("n", "p+2"), elem("float")}, "error", api.ErrArg},
		{"take", []string{"2"}, 1, nil, "error", api.ErrArg},
		{"windows", []string{"1000000"}, 0, []api.Bind{dim("n", "-5"), elem("int")}, "error", api.ErrLimit},
		{"add", nil, 0, nil, "(int, int) -> int", api.OK},
		{"add", []string{"1"}, 0, nil, "error", api.ErrArg},
		{"add", nil, 0, []api.Bind{elem("int")}, "error", api.ErrArg},
		{"chunk", nil, 4, []api.Bind{dim("n", "k+1"), elem("bool")}, "([4k+4]bool) -> [k+1, 4]bool", api.OK},
		{"plus", []string{"1"}, 0, nil, "error", api.ErrName},
	} {
		var sizes []api.Linear
		for _, s := range c.sizes {
			sizes = append(sizes, lin(s))
		}
		if s, e := prims.Under(c.name, sizes, c.num, c.binds); text(s) != c.want || e != c.e {
			t.Errorf("%d: %s %d", i, text(s), e)
		}
	}
	if _, e := prims.Under("iota", []api.Linear{linear.Var("N")}, 0, nil); e != api.ErrArg {
		t.Error("a size that is not valid")
	}
	for _, name := range prims.Names() {
		p, _ := prims.Sig(name)
		num := 0
		if p.Literal {
			num = 1
		}
		var self, swapped []api.Bind
		for _, v := range types.Vars(p.Scheme) {
			if v.Kind == api.DimVar && slices.Contains(p.Sizes, v.Var) {
				continue
			}
			v.Dim, v.Elem = api.Linear{}, ""
			w := v
			if v.Kind == api.ElemVar {
				v.Elem, w.Elem = v.Var, v.Var
			} else {
				v.Dim, w.Dim = linear.Var(v.Var), linear.Var(map[string]string{"n": "m", "m": "n"}[v.Var])
			}
			self, swapped = append(self, v), append(swapped, w)
		}
		var sizes []api.Linear
		for _, k := range p.Sizes {
			sizes = append(sizes, linear.Var(k))
		}
		if s, e := prims.Under(name, sizes, num, self); !types.EqualScheme(s, p.Scheme) || e != api.OK {
			t.Errorf("%s: %s", name, text(s))
		}
		s, _ := prims.Under(name, sizes, num, swapped)
		for i := range swapped {
			if swapped[i].Kind == api.DimVar {
				swapped[i].Var, swapped[i].Dim = swapped[i].Dim.Terms[0].Var, linear.Var(swapped[i].Var)
			}
		}
		if back, e := types.SubstScheme(s, swapped); !types.EqualScheme(back, p.Scheme) || e != api.OK {
			t.Errorf("%s: %s", name, text(back))
		}
	}
}

func TestLaws(t *testing.T) { // P23.3
	numbers := []int{element.Least, element.Greatest, -2, -1, 0, 1, 2, 65536, 12345}
	apply := func(op string, a, b int) int {
		n, ok := element.Apply(op, []int{a, b})
		if !ok {
			t.Fatalf("%s %d %d", op, a, b)
		}
		return n
	}
	for _, name := range prims.Names() {
		params, _, _ := element.Types(name)
		l := numbers
		if len(params) > 0 && params[0] == "bool" {
			l = []int{0, 1}
		}
		z, isNeutral := prims.Neutral(name)
		y, isAbsorbing := prims.Absorbing(name)
		for _, a := range l {
			if isNeutral && (apply(name, a, z) != a || apply(name, z, a) != a) || isAbsorbing && (apply(name, a, y) != y || apply(name, y, a) != y) || prims.Idempotent(name) && apply(name, a, a) != a {
				t.Errorf("%s of %d", name, a)
			}
			for _, b := range l {
				if prims.Commutative(name) && apply(name, a, b) != apply(name, b, a) {
					t.Errorf("%s of %d and %d", name, a, b)
				}
				for _, c := range l {
					if prims.Associative(name) && apply(name, apply(name, a, b), c) != apply(name, a, apply(name, b, c)) {
						t.Errorf("%s of %d, %d and %d", name, a, b, c)
					}
				}
			}
		}
	}
	count := [5]int{}
	for _, name := range append(prims.Names(), "", "plus") {
		_, isNeutral := prims.Neutral(name)
		_, isAbsorbing := prims.Absorbing(name)
		for i, law := range []bool{prims.Commutative(name), prims.Associative(name), prims.Idempotent(name), isNeutral, isAbsorbing} {
			if law {
				count[i]++
			}
		}
	}
	if count != [5]int{9, 7, 4, 7, 5} {
		t.Errorf("%v", count)
	}
}

func TestOperators(t *testing.T) { // P23.4
	levels := map[string]int{"||": 1, "&&": 2, "==": 3, "!=": 3, "<": 3, "<=": 3, ">": 3, ">=": 3, "+": 4, "-": 4, "*": 5, "/": 5, "%": 5}
	for symbol, want := range levels {
		name, level, ok := prims.Operator(symbol, false)
		s, unary, found := prims.Symbol(name)
		if level != want || !ok || s != symbol || unary || !found {
			t.Errorf("%s: %s %d", symbol, name, level)
		}
	}
	for symbol, want := range map[string]string{"-": "neg", "!": "not"} {
		name, level, ok := prims.Operator(symbol, true)
		s, unary, found := prims.Symbol(name)
		if name != want || level != 6 || !ok || s != symbol || !unary || !found {
			t.Errorf("%s: %s %d", symbol, name, level)
		}
	}
	if _, _, ok := prims.Operator("+", true); ok {
		t.Error("unary +")
	}
	if _, _, ok := prims.Operator("!", false); ok {
		t.Error("binary !")
	}
	if name, _, _ := prims.Operator("%", false); name != "mod" {
		t.Error("the example")
	}
	if s, _, ok := prims.Symbol("min"); s != "" || ok {
		t.Error("min has no operator")
	}
}

func TestDimensions(t *testing.T) { // P23.6
	for _, name := range prims.Names() {
		p, _ := prims.Sig(name)
		for v := 0; v < 216; v++ {
			values := []api.Value{{Var: "k", N: v%6 - 1}, {Var: "m", N: v / 6 % 6}, {Var: "n", N: v / 36}}
			holds := func(l []api.Linear) bool {
				return !slices.ContainsFunc(l, func(e api.Linear) bool { n, _ := linear.Eval(e, values); return n < 0 })
			}
			if holds(p.Scheme.Where) && !holds(p.Scheme.Result.Shape.Dims) {
				t.Errorf("%s: %v", name, values)
			}
		}
	}
}
