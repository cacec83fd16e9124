package depend_test

import (
	"fmt"
	"slices"
	"testing"

	"framewise/api"
	"framewise/depend"
	"framewise/linear"
	"framewise/nest"
	"framewise/sample"
)

// shifted writes v0 at i, k from a read of v0 at the given index.
func shifted(at string) api.Nest {
	return api.Nest{
		Loops: []api.Loop{sample.Loop("i", "0", "n"), sample.Loop("k", "0", "m")},
		Write: api.Access{At: sample.Linears("i k")}, Body: sample.Read(0, at),
	}
}

func text(l []api.Access) string {
	s := ""
	for _, a := range l {
		s += fmt.Sprint("v", a.Value)
		for _, x := range a.At {
			s += " " + linear.Print(x)
		}
		if a.Dynamic {
			s += " ?"
		}
		s += "; "
	}
	return s
}

func TestAccesses(t *testing.T) { // P50.1
	loop := func(a, b api.Pull) api.Pull {
		return api.Pull{Op: "reduce", Name: "j0", At: sample.Linears("n"), Fun: sample.Prim("add"), Kids: []api.Pull{a, b}}
	}
	dynamic := api.Pull{Op: "read", Dynamic: true, At: sample.Linears("i"), Kids: []api.Pull{sample.Read(0, "k i")}}
	n := shifted("i-1 k+1")
	indexed := shifted("7 8")
	indexed.Write.Dynamic, indexed.Write.At, indexed.Index = true, sample.Linears("i"), sample.Read(0, "9 9")
	for i, c := range []struct {
		body api.Pull
		want string
	}{
		{n.Body, "v0 i k; v0 i-1 k+1; "}, {sample.Read(1, "i k"), "v0 i k; "}, {sample.Op("add", sample.Read(0, "i i"), sample.Read(0, "i i")), "v0 i k; v0 i i; v0 i i; "}, {dynamic, "v0 i k; v0 i ?; v0 k i; "},
		{loop(sample.Read(0, "i k"), sample.Read(0, "i j0")), "v0 i k; v0 i k; v0 i; "}, {loop(sample.Read(1, ""), sample.Read(0, "j0 k")), "v0 i k; v0; "}, {loop(sample.Read(1, ""), sample.Read(0, "i+j0 k")), "v0 i k; v0; "}, {loop(sample.Number(0), loop(sample.Read(0, "k"), sample.Read(0, "i m j0"))), "v0 i k; v0 k; v0 i m; "}, {api.Pull{}, "v0 i k; "},
	} {
		n.Body = c.body
		if got := text(depend.Accesses(n)); got != c.want {
			t.Errorf("%d: %s", i, got)
		}
	}
	if got := text(depend.Accesses(indexed)); got != "v0 i ?; v0 7 8; v0 9 9; " {
		t.Error(got)
	}
	if got := text(depend.Accesses(api.Nest{})); got != "v0; " {
		t.Error(got)
	}
	l := depend.Accesses(indexed)
	l[0].At[0].Const, l[1].At[0].Const = 9, 9
	if indexed.Write.At[0].Const != 0 || indexed.Body.At[0].Const != 7 {
		t.Error("memory is shared")
	}
}

func TestDirections(t *testing.T) { // P50.1, P50.4
	vars := []string{"m", "n"}
	deep := func(at, read string, vars ...string) api.Nest {
		n := api.Nest{Write: api.Access{At: sample.Linears(at)}, Body: sample.Read(0, read)}
		for _, v := range vars {
			n.Loops = append(n.Loops, sample.Loop(v, "0", "n"))
		}
		return n
	}
	stepped := func(read string, step int) api.Nest {
		n := deep("x", read, "x")
		n.Loops[0].Step = step
		return n
	}
	fold := deep("x", "", "x")
	fold.Body = api.Pull{Op: "reduce", Name: "j0", At: sample.Linears("n"), Fun: sample.Prim("add"), Kids: []api.Pull{sample.Number(0), sample.Read(0, "j0")}}
	dynamic := deep("x", "y x", "x", "y")
	dynamic.Write.Dynamic, dynamic.Index = true, sample.Number(0)
	fresh := deep("_2", "_2-1", "_2", "_1")
	for i, c := range []struct {
		n    api.Nest
		hyps string
		want string
	}{
		{shifted("i-1 k+1"), "", "[[1 -1]]"}, {shifted("i-1 k-1"), "", "[[1 1]]"}, {shifted("i k-1"), "", "[[0 1]]"}, {shifted("i k+1"), "", "[[0 1]]"}, {shifted("i k"), "", "[]"}, {shifted("k i"), "", "[[1 -1]]"}, {shifted("i-m k"), "", "[[1 0]]"}, {shifted("i-m k"), "m", "[[1 0]]"}, {shifted("i-m k"), "-m", "[]"}, {shifted("i-5 k"), "4-n", "[]"}, {shifted("i-5 k"), "5-n", "[]"}, {shifted("i-5 k"), "6-n", "[[1 0]]"}, {shifted("0 0"), "", "[[0 1] [1 0] [1 1]]"}, {shifted("2 k"), "", "[[1 0]]"},
		{deep("x", "x", "x"), "", "[]"}, {deep("2x", "2x+1", "x"), "", "[]"}, {deep("2x", "x", "x"), "", "[[1]]"}, {deep("0", "0", "x"), "", "[[1]]"}, {deep("0", "0", "x"), "1-n", "[]"}, {deep("", "", "x"), "", "[[1]]"}, {deep("x", "", "x"), "", "[[1]]"}, {deep("", ""), "", "[]"}, {deep("y", "y", "x", "y"), "", "[[1 0]]"}, {deep("x y", "z x", "x", "y", "z"), "", "[[0 0 1] [0 1 -1] [0 1 0] [0 1 1] [1 -1 -1] [1 -1 0] [1 -1 1] [1 0 -1] [1 0 0] [1 0 1] [1 1 -1] [1 1 0] [1 1 1]]"},
		{stepped("x-1", 2), "", "[]"}, {stepped("x-2", 2), "", "[[1]]"}, {stepped("x-3", 2), "", "[]"}, {stepped("x-3", 4096), "", "[]"}, {fold, "", "[[1]]"}, {dynamic, "", "[[0 1] [1 -1] [1 0] [1 1]]"}, {fresh, "", "[[0 1] [1 -1] [1 0] [1 1]]"}, {deep("a", "a+1", "a", "b", "c", "d"), "1-n", "[]"},
		{shifted("i k"), "m m m m m m m m m m m m m m m m m m m m m m m m m m m m m m m m m m m m m m m m m m m m m m m m m m m m m m m m m m m m m m m m m m m m m m m m m m m m m m m m m m m m m m m m m m m m m m m m m m m m m m m m m m m m", "[[0 1] [1 -1] [1 0] [1 1]]"},
		{shifted("i-1 k-1"), "-1", "[]"}, {shifted("1000000 k"), "", "[[0 1] [1 -1] [1 0] [1 1]]"}, {deep("x-1000000", "x+1", "x"), "", "[[1]]"},
	} {
		got, e := depend.Directions(c.n, vars, sample.Linears(c.hyps))
		if fmt.Sprint(got) != c.want || e != api.OK {
			t.Errorf("%d: %v %d", i, got, e)
		}
	}
	good := shifted("i k")
	for i, c := range []struct {
		n    api.Nest
		vars []string
		hyps []api.Linear
		e    api.Errno
	}{
		{api.Nest{}, vars, nil, api.ErrArg}, {good, []string{"n"}, nil, api.ErrArg}, {good, []string{"m", "n", "m"}, nil, api.ErrArg}, {good, []string{"m", "n", "_1"}, nil, api.ErrArg}, {good, []string{"m", "n", "_"}, nil, api.ErrArg}, {good, []string{"m", "n", "X", ""}, nil, api.OK}, {good, vars, sample.Linears("k"), api.ErrArg}, {good, vars, sample.Linears("m p"), api.ErrArg}, {good, vars, []api.Linear{linear.Var("N")}, api.ErrArg}, {deep("a", "a", "a", "b", "c", "d", "e"), vars, nil, api.ErrLimit}, {deep("a", "a", "a", "b", "c", "d", "e"), vars, sample.Linears("k"), api.ErrArg},
		{api.Nest{Write: api.Access{Value: 999}, Body: sample.Number(1)}, nil, nil, api.OK}, {api.Nest{Write: api.Access{Value: 1000}, Body: sample.Number(1)}, nil, nil, api.ErrArg},
	} {
		if got, e := depend.Directions(c.n, c.vars, c.hyps); e != c.e || got != nil {
			t.Errorf("%d: %v %d", i, got, e)
		}
	}
}

func TestOrders(t *testing.T) { // P50.1
	for i, c := range []struct {
		d    []int
		want bool
	}{
		{nil, false}, {[]int{0, 0}, false}, {[]int{1}, true}, {[]int{0, 1, -1}, true}, {[]int{-1, 1}, false}, {[]int{0, -1, 1}, false}, {[]int{1, 2}, false}, {[]int{0, 2}, false}, {[]int{1, -2}, false},
	} {
		if got := depend.Forward(c.d); got != c.want {
			t.Errorf("%d: %v", i, got)
		}
	}
	one, two := [][]int{{1, -1}}, [][]int{{1, 1}, {0, 1}}
	for i, c := range []struct {
		order []int
		l     [][]int
		want  bool
	}{
		{[]int{0, 1}, one, true}, {[]int{1, 0}, one, false}, {[]int{0, 1}, two, true}, {[]int{1, 0}, two, true}, {[]int{0, 0}, nil, false}, {[]int{1}, nil, false}, {[]int{-1, 0}, nil, false}, {nil, nil, true}, {[]int{0}, two, false}, {[]int{0, 1, 2}, two, false}, {nil, [][]int{nil}, false}, {[]int{0, 1}, [][]int{{0, 0}}, false}, {[]int{0, 1}, [][]int{{1, 5}}, false}, {[]int{2, 0, 1}, nil, true},
	} {
		if got := depend.Legal(c.order, c.l); got != c.want {
			t.Errorf("%d: %v", i, got)
		}
	}
	for i, c := range []struct {
		a, b int
		l    [][]int
		want bool
	}{
		{0, 2, one, false}, {0, 1, one, true}, {1, 2, one, true}, {0, 2, two, true}, {0, 0, one, true}, {2, 2, one, true}, {0, 3, one, false}, {-1, 1, one, false}, {2, 1, one, false}, {0, 9, nil, true}, {1, 2, [][]int{{0, -1}}, false}, {0, 2, [][]int{{0, 0}}, true}, {1, 3, [][]int{{1, -1, -1}, {0, 1, 0}}, true}, {1, 3, [][]int{{1, -1, -1}, {0, 1, -1}}, false}, {1, 2, [][]int{{7, -1}}, false}, {1, 2, [][]int{{1, -1}, {1}}, false},
	} {
		if got := depend.Band(c.a, c.b, c.l); got != c.want {
			t.Errorf("%d: %v", i, got)
		}
	}
	for i, c := range []struct{ p, q, want []int }{
		{[]int{1, 5, 3}, []int{2, 3, 3}, []int{1, -1, 0}}, {nil, nil, nil}, {[]int{1}, nil, nil}, {nil, []int{1}, nil}, {[]int{-1 << 63}, []int{1<<63 - 1}, []int{1}},
	} {
		if got := depend.Between(c.p, c.q); !slices.Equal(got, c.want) {
			t.Errorf("%d: %v", i, got)
		}
	}
}

// touch reports whether two accesses, each at its point, have equal known components.
func touch(n api.Nest, env []api.Value, a api.Access, p []int, b api.Access, q []int) bool {
	value := func(l api.Linear, point []int) int {
		all := slices.Clone(env)
		for k, x := range point {
			all = append(all, api.Value{Var: n.Loops[k].Var, N: x})
		}
		v, e := linear.Eval(l, all)
		if e != api.OK {
			panic(e)
		}
		return v
	}
	for i := range min(len(a.At), len(b.At)) {
		if value(a.At[i], p) != value(b.At[i], q) {
			return false
		}
	}
	return true
}

func TestRandom(t *testing.T) { // P50.2, P50.3, P50.4
	d := sample.NewDice(18)
	conflicts, free := 0, 0
	for range 250 {
		n := sample.Nest(d, 1+d.N(3))
		hyps := sample.Linears(sample.Pick(d, "n", "n-2", "4-n"))
		directions, e := depend.Directions(n, []string{"n"}, hyps)
		if e != api.OK || !slices.IsSortedFunc(directions, slices.Compare[[]int]) {
			t.Fatalf("%v %d", directions, e)
		}
		if len(directions) == 0 {
			free++
		}
		order := []int{0, 1, 2}[:len(n.Loops)]
		if !depend.Legal(order, directions) {
			t.Fatalf("%v", directions)
		}
		isBand := depend.Band(0, len(order), directions)
		slices.Reverse(order)
		if isBand && !depend.Legal(order, directions) {
			t.Fatalf("%v", directions)
		}
		accesses := depend.Accesses(n)
		for value := range 6 {
			env := []api.Value{{Var: "n", N: value}}
			if h, _ := linear.Eval(hyps[0], env); h < 0 {
				continue
			}
			points, e := nest.Points(n, env)
			if e != api.OK {
				t.Fatalf("%d", e)
			}
			for i, q := range points {
				for _, p := range points[:i] {
					isConflict := slices.ContainsFunc(accesses, func(a api.Access) bool {
						return touch(n, env, accesses[0], p, a, q) || touch(n, env, a, p, accesses[0], q)
					})
					between := depend.Between(p, q)
					if isConflict {
						conflicts++
					}
					if isConflict && !slices.ContainsFunc(directions, func(o []int) bool { return slices.Equal(o, between) }) {
						t.Fatalf("%v and %v are in conflict: %v", p, q, directions)
					}
				}
			}
		}
	}
	// What is written at all loop variables, and not read, has no directions.
	for range 60 {
		n := sample.Nest(d, 2)
		n.Write = api.Access{Value: 3, At: sample.Linears(sample.Pick(d, "x y", "y x", "x 0 y", "n y x"))}
		n.Index, n.Check = api.Pull{}, 0
		if l, e := depend.Directions(n, []string{"n"}, nil); len(l) > 0 || e != api.OK {
			t.Fatalf("%v %d", l, e)
		}
	}
	if conflicts < 5000 || free < 30 {
		t.Errorf("%d %d", conflicts, free)
	}
}
