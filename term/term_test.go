package term_test

import (
	"math/rand"
	"slices"
	"strings"
	"testing"

	"framewise/api"
	"framewise/linear"
	"framewise/term"
)

func v(name string) api.Term { return api.Term{Kind: api.TermVar, Name: name} }

func lit(n int) api.Term { return api.Term{Kind: api.TermLit, Name: "int", Num: n} }

func let(name string, value, body api.Term) api.Term {
	return api.Term{Kind: api.TermLet, Name: name, Kids: []api.Term{value, body}}
}

func call(name string, kids ...api.Term) api.Term {
	return api.Term{Kind: api.TermCall, Name: name, Kids: kids}
}

func change(t api.Term, f func(*api.Term)) api.Term { f(&t); return t }

func lines(t api.Term, n int) api.Term {
	t.Line = n
	t.Kids = slices.Clone(t.Kids)
	for i := range t.Kids {
		t.Kids[i] = lines(t.Kids[i], n+i+1)
	}
	return t
}

// deep returns a chain of negations of a depth.
func deep(n int) api.Term {
	t := v("x")
	for ; n > 1; n-- {
		t = call("neg", t)
	}
	return t
}

func wide(n int) api.Term {
	return api.Term{Kind: api.TermPack, Kids: slices.Repeat([]api.Term{v("x")}, n)}
}

func TestValid(t *testing.T) { // P25.1
	n := linear.Var("n")
	size := api.Term{Kind: api.TermSize, Sizes: []api.Linear{n}}
	array := api.Array{Elem: "int", Dims: []int{2}, Data: []int{1, 2}}
	constant := api.Term{Kind: api.TermConst, Array: array}
	fold := api.Term{Kind: api.TermFold, Name: "m.f", Kids: []api.Term{lit(0), v("x")}}
	scan := api.Term{Kind: api.TermScan, Name: "add", Kids: []api.Term{v("x")}}
	take := change(call("take", v("x")), func(t *api.Term) { t.Sizes = []api.Linear{n} })
	for i, g := range []api.Term{v("x"), lit(-1 << 31), lit(1<<31 - 1), {Kind: api.TermLit, Name: "bool", Num: 1}, constant, size, let("a", v("x"), v("a")), call("m.f"), call("f", v("x"), v("y")), take, fold, scan, wide(1), wide(16), deep(40),
		change(v("x"), func(t *api.Term) { t.Line = 10000; t.Kids = []api.Term{}; t.Array.Dims = []int{} }),
		change(call("f", v("x"), v("y")), func(t *api.Term) {
			t.Ranks = []int{0, 6}
			t.Num = 64
			t.Sizes = slices.Repeat([]api.Linear{n}, 4)
		}),
		call("f", slices.Repeat([]api.Term{v("x")}, 8)...),
	} {
		if !term.Valid(g) {
			t.Errorf("%d: %v", i, g)
		}
	}
	for i, b := range []api.Term{
		{}, {Kind: 10}, {Kind: -1}, v(""), v("X"), v("in"), v("m.x"), {Kind: api.TermLit, Name: "A"}, {Kind: api.TermLit, Name: "bool", Num: 2}, lit(1 << 31), wide(0), wide(17), deep(41), call(""), call("F"), call("m.f.g"),
		{Kind: api.TermConst}, {Kind: api.TermSize}, let("", v("x"), v("x")), {Kind: api.TermLet, Name: "a", Kids: []api.Term{v("x")}},
		change(v("x"), func(t *api.Term) { t.Line = -1 }), change(v("x"), func(t *api.Term) { t.Line = 10001 }), change(v("x"), func(t *api.Term) { t.Num = 1 }), change(v("x"), func(t *api.Term) { t.Ranks = []int{1} }), change(v("x"), func(t *api.Term) { t.Array = array }), change(v("x"), func(t *api.Term) { t.Sizes = []api.Linear{n} }), change(v("x"), func(t *api.Term) { t.Kids = []api.Term{v("x")} }),
		change(lit(1), func(t *api.Term) { t.Kids = []api.Term{v("x")} }), change(constant, func(t *api.Term) { t.Name = "int" }), change(constant, func(t *api.Term) { t.Array.Data = []int{1} }), change(size, func(t *api.Term) { t.Sizes = []api.Linear{n, n} }), change(size, func(t *api.Term) { t.Sizes = []api.Linear{linear.Var("N")} }), change(size, func(t *api.Term) { t.Name = "n" }),
		change(let("a", v("x"), v("a")), func(t *api.Term) { t.Num = 1 }), change(wide(2), func(t *api.Term) { t.Name = "x" }), change(fold, func(t *api.Term) { t.Kids = t.Kids[:1] }), change(fold, func(t *api.Term) { t.Name = "1" }), change(fold, func(t *api.Term) { t.Sizes = []api.Linear{n} }), change(scan, func(t *api.Term) { t.Kids = nil }), change(scan, func(t *api.Term) { t.Name = "" }),
		change(take, func(t *api.Term) { t.Sizes = slices.Repeat(t.Sizes, 5) }), change(take, func(t *api.Term) { t.Sizes = []api.Linear{linear.Var("N")} }), change(take, func(t *api.Term) { t.Num = 65 }), change(take, func(t *api.Term) { t.Num = -1 }), change(take, func(t *api.Term) { t.Ranks = []int{1, 1} }), change(take, func(t *api.Term) { t.Ranks = []int{7} }), change(take, func(t *api.Term) { t.Ranks = []int{-1} }), change(call("f"), func(t *api.Term) { t.Ranks = []int{0} }), change(take, func(t *api.Term) { t.Array = array }),
		call("f", slices.Repeat([]api.Term{v("x")}, 9)...), call("neg", v("X")),
	} {
		if term.Valid(b) {
			t.Errorf("%d: %v", i, b)
		}
	}
	// 16 times 24 nodes, and one more for each pack, and the first one.
	many := api.Term{Kind: api.TermPack}
	for range 16 {
		many.Kids = append(many.Kids, deep(24))
	}
	many.Kids[0] = deep(38)
	if term.Size(many) != 399 || !term.Valid(many) {
		t.Errorf("%d nodes", term.Size(many))
	}
	many.Kids[1] = deep(25)
	if !term.Valid(many) {
		t.Error("400 nodes")
	}
	many.Kids[1] = deep(26)
	if term.Valid(many) {
		t.Error("401 nodes")
	}
}

func TestParts(t *testing.T) { // P25.1
	x := let("a", call("m.f", v("x"), v("a")), api.Term{Kind: api.TermFold, Name: "add", Line: 7, Kids: []api.Term{v("a"), change(call("index", v("y"), lit(1)), func(t *api.Term) { t.Line = 3; t.Sizes = []api.Linear{linear.Var("n"), linear.Var("k")} })}})
	if got := term.Free(x); !slices.Equal(got, []string{"a", "x", "y"}) {
		t.Errorf("%v", got)
	}
	if got := term.Calls(x); !slices.Equal(got, []string{"add", "index", "m.f"}) {
		t.Errorf("%v", got)
	}
	if got := term.Dims(x); !slices.Equal(got, []string{"k", "n"}) {
		t.Errorf("%v", got)
	}
	if got := term.Lines(x); !slices.Equal(got, []int{0, 3, 7}) {
		t.Errorf("%v", got)
	}
	if term.Checks(x) != 1 || term.Checks(call("update", x)) != 2 || term.Checks(api.Term{Kind: api.TermScan, Name: "index"}) != 0 {
		t.Error("Checks")
	}
	if term.Size(x) != 9 || term.Depth(x) != 4 || term.Size(api.Term{}) != 1 || term.Depth(api.Term{}) != 1 {
		t.Errorf("%d %d", term.Size(x), term.Depth(x))
	}
	if !term.Equal(x, lines(x, 5)) || term.Equal(x, let("b", x.Kids[0], x.Kids[1])) || term.Equal(v("x"), lit(0)) || term.Equal(call("f"), call("f", v("x"))) || term.Equal(lit(1), lit(2)) || !term.Equal(api.Term{Kids: []api.Term{}, Ranks: []int{}}, api.Term{}) {
		t.Error("Equal")
	}
	odd := api.Term{Kind: api.TermLet, Name: "a", Kids: []api.Term{v("a"), v("a"), v("b")}}
	if !slices.Equal(term.Free(odd), []string{"a", "b"}) || !term.Equal(term.Standard(odd), odd) {
		t.Error("a let with three kids")
	}
	long := deep(60000)
	if term.Size(long) != 60000 || term.Depth(long) != 60000 || term.Valid(long) || len(term.Free(long)) != 1 {
		t.Error("a deep term")
	}
}

func random(r *rand.Rand, depth int) api.Term {
	names := []string{"x", "a", "b", "v1", "v2"}
	kids := func(n int) []api.Term {
		var l []api.Term
		for range n {
			l = append(l, random(r, depth-1))
		}
		return l
	}
	if depth == 0 {
		return v(names[r.Intn(5)])
	}
	switch r.Intn(6) {
	case 0, 1, 2:
		k := kids(2)
		return let(names[r.Intn(5)], k[0], k[1])
	case 3:
		return api.Term{Kind: api.TermFold, Name: "add", Kids: kids(2), Line: r.Intn(3)}
	case 4:
		return api.Term{Kind: api.TermPack, Kids: kids(1 + r.Intn(3))}
	}
	return change(call([]string{"index", "m.f", "neg"}[r.Intn(3)], kids(r.Intn(3))...), func(t *api.Term) { t.Sizes = []api.Linear{linear.Var(names[r.Intn(5)])} })
}

// paths returns the paths of all nodes in preorder.
func paths(t api.Term) [][]int {
	l := [][]int{nil}
	for i, kid := range t.Kids {
		for _, p := range paths(kid) {
			l = append(l, append([]int{i}, p...))
		}
	}
	return l
}

func TestNodes(t *testing.T) { // P25.2, P25.3, P25.6
	r := rand.New(rand.NewSource(1))
	for i := 0; i < 300; i++ {
		x := random(r, 4)
		all := paths(x)
		if len(all) != term.Size(x) {
			t.Fatalf("%v", x)
		}
		at := all[r.Intn(len(all))]
		by := random(r, 1)
		old, _ := term.At(x, at)
		y, e := term.Replace(x, at, by)
		if got, _ := term.At(y, at); !term.Equal(got, by) || e != api.OK {
			t.Fatalf("%v at %v", y, at)
		}
		if back, _ := term.Replace(y, at, old); !term.Equal(back, x) {
			t.Fatalf("%v at %v", back, at)
		}
		for j, p := range all {
			a, ok := term.At(x, p)
			b, found := term.Nth(x, j)
			if !term.Equal(a, b) || !ok || !found {
				t.Fatalf("%v at %v", x, p)
			}
			if n := min(len(p), len(at)); !slices.Equal(p[:n], at[:n]) {
				if c, _ := term.At(y, p); !term.Equal(a, c) {
					t.Fatalf("%v at %v", y, p)
				}
			}
		}
		var free, calls []string
		for j, kid := range x.Kids {
			for _, f := range term.Free(kid) {
				if !(x.Kind == api.TermLet && j == 1 && f == x.Name) {
					free = append(free, f)
				}
			}
			calls = append(calls, term.Calls(kid)...)
		}
		if x.Kind == api.TermVar {
			free = []string{x.Name}
		}
		if x.Kind == api.TermCall || x.Kind == api.TermFold {
			calls = append(calls, x.Name)
		}
		slices.Sort(free)
		slices.Sort(calls)
		if !slices.Equal(slices.Compact(free), term.Free(x)) || !slices.Equal(slices.Compact(calls), term.Calls(x)) {
			t.Fatalf("%v: %v", x, term.Free(x))
		}
	}
	x := call("f", v("x"))
	for _, path := range [][]int{{1}, {-1}, {0, 0}} {
		if _, e := term.Replace(x, path, x); e != api.ErrNone {
			t.Errorf("%v: %d", path, e)
		}
		if _, ok := term.At(x, path); ok {
			t.Errorf("%v", path)
		}
	}
	for _, i := range []int{-1, 2, 1 << 62} {
		if _, ok := term.Nth(x, i); ok {
			t.Errorf("%d", i)
		}
	}
	y, _ := term.Replace(x, []int{0}, x)
	if y.Kids[0].Kids[0].Name = "z"; x.Kids[0].Name != "x" {
		t.Error("memory is shared")
	}
}

func TestNames(t *testing.T) { // P25.4, P25.5
	x := let("a", v("x"), let("b", v("a"), call("add", v("b"), v("v1"))))
	want := let("v2", v("x"), let("v3", v("v2"), call("add", v("v3"), v("v1"))))
	if got := term.Standard(x); !term.Equal(got, want) {
		t.Errorf("%v", got)
	}
	shadow := call("add", let("a", v("a"), let("a", v("a"), v("a"))), v("a"))
	if got := term.Standard(shadow); !term.Equal(got, call("add", let("v1", v("a"), let("v2", v("v1"), v("v2"))), v("a"))) {
		t.Errorf("%v", got)
	}
	inner := let("a", let("a", v("x"), v("a")), v("a"))
	if got := term.Standard(inner); !term.Equal(got, let("v1", let("v2", v("x"), v("v2")), v("v1"))) {
		t.Errorf("%v", got)
	}
	r := rand.New(rand.NewSource(2))
	for i := 0; i < 500; i++ {
		x, y, z := random(r, 3), random(r, 2), random(r, 2)
		s := term.Standard(x)
		if !term.Equal(s, term.Standard(s)) || !slices.Equal(term.Free(s), term.Free(x)) || !term.Alpha(s, x) || !term.Alpha(x, s) || term.Valid(x) != term.Valid(s) {
			t.Fatalf("%v: %v", x, s)
		}
		if term.Alpha(y, z) != term.Alpha(z, y) || term.Alpha(y, z) && term.Alpha(z, s) && !term.Alpha(y, s) {
			t.Fatalf("%v %v", y, z)
		}
		// Rename a let to a name that occurs nowhere.
		for _, p := range paths(x) {
			node, _ := term.At(x, p)
			if node.Kind != api.TermLet {
				continue
			}
			node.Kids[1] = subst(node.Kids[1], node.Name, "fresh")
			node.Name = "fresh"
			if renamed, _ := term.Replace(x, p, node); !term.Alpha(x, renamed) {
				t.Fatalf("%v: %v", x, renamed)
			}
		}
	}
	if term.Alpha(v("x"), v("y")) || term.Alpha(let("a", v("x"), v("a")), let("a", v("x"), v("x"))) {
		t.Error("Alpha")
	}
	if !strings.HasPrefix(term.Standard(x).Name, "v") {
		t.Error("standard names")
	}
}

// subst replaces the free occurrences of a variable.
func subst(t api.Term, from, to string) api.Term {
	if t.Kind == api.TermVar && t.Name == from {
		t.Name = to
	}
	t.Kids = slices.Clone(t.Kids)
	for i := range t.Kids {
		if t.Kind == api.TermLet && i == 1 && t.Name == from {
			continue
		}
		t.Kids[i] = subst(t.Kids[i], from, to)
	}
	return t
}
