package nest_test

import (
	"slices"
	"testing"

	"framewise/api"
	"framewise/array"
	"framewise/clone"
	"framewise/fuse"
	"framewise/linear"
	"framewise/nest"
	"framewise/pull"
	"framewise/sample"
)

var in = sample.Instr

func fused(f api.Flat) api.Kernels {
	k, e := fuse.Fuse(f)
	if e != api.OK {
		panic(e)
	}
	return k
}

func lin(s string) api.Pull { return api.Pull{Op: "linear", At: sample.Linears(s)} }

// write returns an access.
func write(v int, at string) api.Access { return api.Access{Value: v, At: sample.Linears(at)} }

// triangle writes i0 + 10 i1 at i0 and i1, for i1 up to i0.
func triangle() api.Nest {
	return api.Nest{Loops: []api.Loop{sample.Loop("i0", "0", "n"), sample.Loop("i1", "0", "i0+1 n+7")}, Write: write(1, "i0 i1"), Body: lin("i0+10i1")}
}

// dynamic writes v0[i0] at i1 and v0[i0].
func dynamic() api.Nest {
	n := triangle()
	n.Write = api.Access{Value: 1, At: sample.Linears("i1"), Dynamic: true}
	n.Index, n.Body, n.Check = sample.Read(0, "i0"), sample.Read(0, "i0"), 3
	return n
}

func TestValid(t *testing.T) { // P49.1
	vars := []string{"m", "n"}
	if !nest.Valid(triangle(), vars, 2) || !nest.Valid(dynamic(), vars, 2) || !nest.Valid(api.Nest{Body: sample.Number(1)}, nil, 1) {
		t.Fatal("valid nests")
	}
	for i, f := range []func(n *api.Nest){
		func(n *api.Nest) { n.Loops[0].Var = "I" }, func(n *api.Nest) { n.Loops[0].Var = "" }, func(n *api.Nest) { n.Loops[0].Var = "n" }, func(n *api.Nest) { n.Loops[1].Var = "i0" }, func(n *api.Nest) { n.Loops[0].Lo = sample.Linear("i0") }, func(n *api.Nest) { n.Loops[0].Hi = sample.Linears("n i1") }, func(n *api.Nest) { n.Loops[1].Lo = sample.Linear("k") }, func(n *api.Nest) { n.Loops[0].Hi = nil }, func(n *api.Nest) { n.Loops[0].Hi = sample.Linears("1 2 3 4 5") }, func(n *api.Nest) { n.Loops[0].Lo = linear.Var("N") }, func(n *api.Nest) { n.Loops[0].Hi[0] = linear.Var("N") }, func(n *api.Nest) { n.Loops[0].Step = 0 }, func(n *api.Nest) { n.Loops[0].Step = 4097 }, func(n *api.Nest) { n.Loops = slices.Repeat(n.Loops, 7) },
		func(n *api.Nest) { n.Write.Value = -1 }, func(n *api.Nest) { n.Write.Value = 2 }, func(n *api.Nest) { n.Write.At = sample.Linears("0 0 0 0 0 0 0") }, func(n *api.Nest) { n.Write.At = sample.Linears("k") }, func(n *api.Nest) { n.Write.At[0] = linear.Var("N") }, func(n *api.Nest) { n.Body = sample.Read(2, "") }, func(n *api.Nest) { n.Body = lin("k") }, func(n *api.Nest) { n.Body = api.Pull{} }, func(n *api.Nest) { n.Index = sample.Number(0) }, func(n *api.Nest) { n.Check = 1 }, func(n *api.Nest) { n.Write.Dynamic = true },
		func(n *api.Nest) { *n = dynamic(); n.Check = -1 }, func(n *api.Nest) { *n = dynamic(); n.Index = lin("k") }, func(n *api.Nest) { *n = dynamic(); n.Write.At = sample.Linears("0 0 0 0 0 0") }, func(n *api.Nest) { *n = dynamic(); n.Write.Dynamic = false },
		func(n *api.Nest) {
			n.Body = api.Pull{Op: "reduce", Name: "i1", At: sample.Linears("n"), Fun: sample.Prim("add"), Kids: []api.Pull{sample.Number(0), sample.Number(1)}}
		},
	} {
		n := clone.Nest(triangle())
		f(&n)
		if nest.Valid(n, vars, 2) {
			t.Errorf("%d", i)
		}
		if out, _, _, e := nest.Run(n, sample.Values("m=1 n=2"), sample.Arrays("#[2: 0 1]", "#[2 2: 0 0 0 0]")); e != api.ErrArg || out != nil {
			t.Errorf("%d: %d", i, e)
		}
	}
	for i, f := range []func(n *api.Nest){
		func(n *api.Nest) { n.Loops[0].Step = 4096 }, func(n *api.Nest) { n.Loops[0].Hi = sample.Linears("1 2 3 m") }, func(n *api.Nest) { n.Write.At = sample.Linears("0 0 0 0 0 0") }, func(n *api.Nest) {
			n.Loops = nil
			for k := range 12 {
				n.Loops = append(n.Loops, sample.Loop(pull.Loop(k), "0", "1"))
			}
		}, func(n *api.Nest) { *n = dynamic(); n.Write.At = sample.Linears("0 0 0 0 0") },
	} {
		n := clone.Nest(triangle())
		f(&n)
		if !nest.Valid(n, vars, 2) {
			t.Errorf("%d", i)
		}
	}
	if nest.Valid(triangle(), nil, 2) || nest.Valid(triangle(), vars, 1) || nest.Valid(triangle(), vars, -1) {
		t.Error("other variables or values")
	}
}

func TestPoints(t *testing.T) { // P49.1, P49.3
	empty := api.Nest{Loops: []api.Loop{sample.Loop("a", "0", "20000"), sample.Loop("b", "0", "12"), sample.Loop("c", "0", "0")}, Body: sample.Number(1)}
	for i, c := range []struct {
		n    api.Nest
		env  string
		want [][]int
		e    api.Errno
	}{
		{triangle(), "n=2", [][]int{{0, 0}, {1, 0}, {1, 1}}, 0}, {triangle(), "n=0", nil, 0}, {triangle(), "n=-5", nil, 0}, {api.Nest{Body: sample.Number(1)}, "", [][]int{nil}, 0},
		{api.Nest{Loops: []api.Loop{{Var: "x", Lo: sample.Linear("n"), Hi: sample.Linears("9"), Step: 3}}, Body: sample.Number(1)}, "n=2", [][]int{{2}, {5}, {8}}, 0},
		{api.Nest{Loops: []api.Loop{sample.Loop("x", "-2", "9 n 3")}, Body: sample.Number(1)}, "n=0 z=5", [][]int{{-2}, {-1}}, 0},
		{triangle(), "", nil, api.ErrArg}, {triangle(), "n=2 n=2", nil, api.ErrArg}, {triangle(), "n=2 i0=2", nil, api.ErrArg}, {api.Nest{Body: sample.Number(1), Write: write(999, "")}, "", [][]int{nil}, 0}, {api.Nest{Body: sample.Number(1), Write: write(1000, "")}, "", nil, api.ErrArg}, {api.Nest{}, "", nil, api.ErrArg},
		{triangle(), "n=2000000000", nil, api.ErrRange}, {api.Nest{Loops: []api.Loop{sample.Loop("x", "1000n", "1000n+2"), sample.Loop("y", "x", "x+1")}, Body: sample.Number(1)}, "n=1000000", nil, api.ErrRange}, {triangle(), "n=200", nil, api.ErrLimit}, {empty, "", nil, api.ErrLimit},
	} {
		got, e := nest.Points(c.n, sample.Values(c.env))
		if !slices.EqualFunc(got, c.want, slices.Equal[[]int]) || e != c.e {
			t.Errorf("%d: %v %d", i, got, e)
		}
	}
	exact := api.Nest{Loops: []api.Loop{sample.Loop("x", "0", "20000")}, Body: sample.Number(1)}
	if l, e := nest.Points(exact, nil); len(l) != 20000 || e != api.OK {
		t.Errorf("%d %d", len(l), e)
	}
	// 20000 values of a, and 11 of b for each of them, but no point: then 12 of b.
	empty.Loops[1].Hi = sample.Linears("12")
	if _, e := nest.Points(empty, nil); e != api.ErrLimit {
		t.Errorf("%d", e)
	}
	empty.Loops[1].Hi = sample.Linears("11")
	if l, e := nest.Points(empty, nil); l != nil || e != api.OK {
		t.Errorf("%d", e)
	}
}

func TestRun(t *testing.T) { // P49.1
	arrays := sample.Arrays("#[3: 1 5 0]", "#[2 2: 9 9 9 9]", "#b[1: 0]")
	broken := api.Array{Elem: api.Bool, Data: []int{2}}
	add := func(a, b api.Pull) api.Pull { return api.Pull{Op: "add", Kids: []api.Pull{a, b}} }
	none := func(n *api.Nest) {}
	for i, c := range []struct {
		f        func(n *api.Nest)
		env      string
		want     string
		counts   api.Counts
		violated []int
		e        api.Errno
	}{
		{none, "n=2", "#[2 2: 0 9 1 11] ", api.Counts{Writes: 3}, nil, 0},
		{none, "n=0", "#[2 2: 9 9 9 9] ", api.Counts{}, nil, 0},
		{func(n *api.Nest) { *n = dynamic() }, "n=2", "#[2 2: 9 1 9 9] ", api.Counts{Reads: 6, Writes: 3}, []int{3}, 0},
		{func(n *api.Nest) { *n = dynamic(); n.Check = 0 }, "n=2", "#[2 2: 9 1 9 9] ", api.Counts{Reads: 6, Writes: 3}, nil, 0},
		{func(n *api.Nest) { *n = dynamic(); n.Index = sample.Number(-1) }, "n=2", "#[2 2: 9 9 9 9] ", api.Counts{Reads: 3, Writes: 3}, []int{3}, 0},
		{func(n *api.Nest) { n.Body = add(sample.Read(1, "i0 i1"), sample.Read(0, "i1")) }, "n=2", "#[2 2: 10 9 10 14] ", api.Counts{Reads: 6, Writes: 3, Ops: 3}, nil, 0},
		{func(n *api.Nest) {
			n.Write.At = sample.Linears("0 0")
			n.Body = add(sample.Read(1, "0 0"), sample.Number(1))
		}, "n=2", "#[2 2: 12 9 9 9] ", api.Counts{Reads: 3, Writes: 3, Ops: 3}, nil, 0},
		{func(n *api.Nest) { n.Loops = nil; n.Write.At = sample.Linears("n 0"); n.Body = sample.Number(4) }, "n=1", "#[2 2: 9 9 4 9] ", api.Counts{Writes: 1}, nil, 0},
		{none, "n=3", "", api.Counts{}, nil, api.ErrRange}, {func(n *api.Nest) { n.Write.At = sample.Linears("i0") }, "n=2", "", api.Counts{}, nil, api.ErrRank}, {func(n *api.Nest) { n.Write.At = sample.Linears("0 0 0") }, "n=2", "", api.Counts{}, nil, api.ErrRank}, {func(n *api.Nest) { n.Write.At = sample.Linears("i0-1 0") }, "n=2", "", api.Counts{}, nil, api.ErrRange}, {func(n *api.Nest) { *n = dynamic(); n.Write.At = sample.Linears("i0+1") }, "n=2", "", api.Counts{}, nil, api.ErrRange}, {func(n *api.Nest) { n.Write = write(2, "0") }, "n=2", "", api.Counts{}, nil, api.ErrType}, {func(n *api.Nest) { n.Write = write(2, "0"); n.Body = sample.Number(1) }, "n=2", "#[2 2: 9 9 9 9] ", api.Counts{Writes: 3}, nil, 0},
		{func(n *api.Nest) {
			*n = dynamic()
			n.Write = api.Access{Value: 2, Dynamic: true}
			n.Index = sample.Number(7)
			n.Body = sample.Number(2)
		}, "n=2", "", api.Counts{}, nil, api.ErrType},
		{func(n *api.Nest) { n.Body = sample.Read(0, "i0+2") }, "n=2", "", api.Counts{}, nil, api.ErrRange}, {func(n *api.Nest) { n.Body = sample.Read(0, "") }, "n=2", "", api.Counts{}, nil, api.ErrRank}, {func(n *api.Nest) { n.Body = api.Pull{Op: "not", Kids: []api.Pull{sample.Number(2)}} }, "n=2", "", api.Counts{}, nil, api.ErrType}, {func(n *api.Nest) { n.Body = lin("m") }, "m=2000000000 n=2", "", api.Counts{}, nil, api.ErrLimit}, {func(n *api.Nest) { n.Write.At = sample.Linears("m 0") }, "m=2000000000 n=2", "", api.Counts{}, nil, api.ErrRange}, {func(n *api.Nest) { n.Loops[0].Lo = sample.Linear("m") }, "m=2000000000 n=2", "", api.Counts{}, nil, api.ErrRange},
		{func(n *api.Nest) { n.Body = sample.Read(3, "") }, "n=2", "", api.Counts{}, nil, api.ErrArg}, {func(n *api.Nest) { n.Body = sample.Read(3, "") }, "n=0", "#[2 2: 9 9 9 9] ", api.Counts{}, nil, 0}, {func(n *api.Nest) { n.Write.Value = 3 }, "n=0", "", api.Counts{}, nil, api.ErrArg}, {func(n *api.Nest) { n.Write.Value = 4 }, "n=0", "", api.Counts{}, nil, api.ErrArg}, {none, "m=2", "", api.Counts{}, nil, api.ErrArg}, {none, "n=2 n=2", "", api.Counts{}, nil, api.ErrArg}, {func(n *api.Nest) { *n = dynamic(); n.Index, n.Body = sample.Read(0, "9"), sample.Read(3, "") }, "n=2", "", api.Counts{}, nil, api.ErrRange}, {func(n *api.Nest) { *n = dynamic(); n.Index, n.Body = sample.Read(3, ""), sample.Read(0, "9") }, "n=2", "", api.Counts{}, nil, api.ErrArg},
		{func(n *api.Nest) {
			n.Write.At, n.Loops = sample.Linears("0 0"), []api.Loop{sample.Loop("x", "0", "20001")}
			n.Body = sample.Number(1)
		}, "n=2", "", api.Counts{}, nil, api.ErrLimit},
		{func(n *api.Nest) {
			n.Write.At, n.Loops = sample.Linears("0 0"), []api.Loop{sample.Loop("x", "0", "20001")}
			n.Body = sample.Read(0, "x")
		}, "n=2", "", api.Counts{}, nil, api.ErrRange},
		{func(n *api.Nest) {
			n.Write.At, n.Loops = sample.Linears("0 0"), []api.Loop{sample.Loop("x", "0", "20001")}
			n.Body = sample.Read(0, "x-20000")
		}, "n=2", "", api.Counts{}, nil, api.ErrRange},
	} {
		n := clone.Nest(triangle())
		c.f(&n)
		given := append(clone.Each(arrays, clone.Array), broken)
		out, counts, violated, e := nest.Run(n, sample.Values(c.env), given)
		got := ""
		if e == api.OK {
			got = sample.Text(out[1:2])
		}
		if got != c.want || counts != c.counts || !slices.Equal(violated, c.violated) || e != c.e || e != api.OK && out != nil {
			t.Errorf("%d: %s %v %v %d", i, got, counts, violated, e)
		}
		if sample.Text(given[:3]) != sample.Text(arrays) {
			t.Errorf("%d: the arrays are changed", i)
		}
	}
}

func TestOf(t *testing.T) { // P49.1
	k := api.Kernels{Vars: []string{"m", "n"}, Inputs: 1}
	for _, s := range []string{"[n]int", "[m, n]int", "[n]int"} {
		k.Values = append(k.Values, sample.Type(s))
	}
	k.List = []api.Kernel{
		{Kind: api.KernelMap, Value: 1, Space: sample.Linears("m n"), Body: sample.Read(0, "i1"), Index: sample.Number(4), Check: 7},
		{Kind: api.KernelScan, Value: 2, Space: sample.Linears("n"), Body: sample.Read(0, "i0"), Fun: sample.Prim("max")},
		{Kind: api.KernelUpdate, Value: 2, Source: 0, Body: sample.Read(0, "0"), Index: sample.Read(0, "1"), Check: 2},
		{Kind: api.KernelUpdate, Value: 1, Source: 1, Space: sample.Linears("m"), Body: sample.Read(0, "i0"), Index: sample.Number(3)},
	}
	all := func(v string, dims ...string) []api.Loop {
		var l []api.Loop
		for i, d := range dims {
			l = append(l, sample.Loop(v+string(rune('0'+i)), "0", d))
		}
		return l
	}
	code := api.Pull{Op: "code", Fun: sample.Prim("max"), Kids: []api.Pull{sample.Read(2, "i0-1"), sample.Read(0, "i0")}}
	scan := api.Nest{Loops: all("i", "n"), Write: write(2, "i0"), Body: api.Pull{Op: "if", At: sample.Linears("i0-1"), Kids: []api.Pull{code, sample.Read(0, "i0")}}}
	copied := api.Nest{Loops: all("i", "n"), Write: write(2, "i0"), Body: sample.Read(0, "i0")}
	update := api.Nest{Write: api.Access{Value: 2, Dynamic: true}, Index: sample.Read(0, "1"), Body: sample.Read(0, "0"), Check: 2}
	again := api.Nest{Loops: all("i", "m"), Write: api.Access{Value: 1, At: sample.Linears("i0"), Dynamic: true}, Index: sample.Number(3), Body: sample.Read(0, "i0")}
	mapped := api.Nest{Loops: all("i", "m", "n"), Write: write(1, "i0 i1"), Body: sample.Read(0, "i1")}
	for i, c := range []struct {
		k       int
		inPlace bool
		want    []api.Nest
	}{
		{0, false, []api.Nest{mapped}}, {0, true, []api.Nest{mapped}}, {1, false, []api.Nest{scan}}, {1, true, []api.Nest{scan}}, {2, false, []api.Nest{copied, update}}, {2, true, []api.Nest{update}}, {3, false, []api.Nest{again}}, {3, true, []api.Nest{again}},
	} {
		got, e := nest.Of(k, c.k, c.inPlace)
		if !slices.EqualFunc(got, c.want, equal) || e != api.OK {
			t.Errorf("%d: %v %d", i, got, e)
		}
	}
	for i, c := range []struct {
		f  func(k *api.Kernels)
		at int
		e  api.Errno
	}{
		{func(k *api.Kernels) {}, -1, api.ErrRange}, {func(k *api.Kernels) {}, 4, api.ErrRange}, {func(k *api.Kernels) { k.List[0].Kind = 0 }, 0, api.ErrArg}, {func(k *api.Kernels) { k.List[0].Kind = 4 }, 0, api.ErrArg}, {func(k *api.Kernels) { k.List[0].Value = 3 }, 0, api.ErrArg}, {func(k *api.Kernels) { k.List[0].Value = -1 }, 0, api.ErrArg}, {func(k *api.Kernels) { k.List[2].Value = 3 }, 2, api.ErrArg}, {func(k *api.Kernels) { k.List[1].Space = nil }, 1, api.ErrArg}, {func(k *api.Kernels) { k.List[1].Fun = []api.Step{{Op: "add"}} }, 1, api.ErrArg}, {func(k *api.Kernels) { k.List[1].Body = sample.Read(0, "i1") }, 1, api.ErrArg}, {func(k *api.Kernels) { k.List[2].Source = 3 }, 2, api.ErrArg}, {func(k *api.Kernels) { k.List[2].Index = api.Pull{} }, 2, api.ErrArg}, {func(k *api.Kernels) { k.List[2].Check = -1 }, 2, api.ErrArg}, {func(k *api.Kernels) { k.Vars = []string{"i0", "m", "n"} }, 0, api.ErrArg}, {func(k *api.Kernels) { k.Vars = []string{"m"} }, 2, api.ErrArg}, {func(k *api.Kernels) { k.List[0].Space = sample.Linears("m n m n m n m n m n m n m") }, 0, api.ErrArg}, {func(k *api.Kernels) { k.List[3].Space = sample.Linears("m n m n m n") }, 3, api.ErrArg},
	} {
		k := clone.Kernels(k)
		c.f(&k)
		if got, e := nest.Of(k, c.at, false); e != c.e || got != nil {
			t.Errorf("%d: %d", i, e)
		}
	}
	first, _ := nest.Of(k, 1, false)
	first[0].Body.Kids[1].At[0].Const = 5
	if k.List[1].Body.At[0].Const != 0 || first[0].Body.Kids[0].Kids[1].At[0].Const != 0 {
		t.Error("memory is shared")
	}
}

func equal(a, b api.Nest) bool {
	isLoop := func(a, b api.Loop) bool {
		return a.Var == b.Var && linear.Equal(a.Lo, b.Lo) && slices.EqualFunc(a.Hi, b.Hi, linear.Equal) && a.Step == b.Step
	}
	return slices.EqualFunc(a.Loops, b.Loops, isLoop) && a.Write.Value == b.Write.Value && slices.EqualFunc(a.Write.At, b.Write.At, linear.Equal) &&
		a.Write.Dynamic == b.Write.Dynamic && pull.Equal(a.Index, b.Index) && a.Check == b.Check && pull.Equal(a.Body, b.Body)
}

func TestAll(t *testing.T) { // P49.1
	k := fused(sample.Program("m n", []string{"[n]int", "bool", "int"}, []int{4, 0, 4}, in("add v0@0 v2|n"), in("update v3 v2 v2", sample.Check(6))))
	inputs := sample.Arrays("#[2: 5 6]", "#b[: 1]", "#[: 7]")
	results, counts, violated, e := nest.All(k, sample.Values("m=2 n=2"), inputs)
	if sample.Text(results) != "#[2: 12 13] #[2: 5 6] #[2: 12 13] " || counts != (api.Counts{Reads: 8, Writes: 5, Ops: 2}) || !slices.Equal(violated, []int{6}) || e != api.OK {
		t.Errorf("%s %v %v %d", sample.Text(results), counts, violated, e)
	}
	if results[0].Data[0] = 1; results[2].Data[0] != 12 {
		t.Error("memory is shared")
	}
	if results[1].Data[0] = 1; inputs[0].Data[0] != 5 {
		t.Error("memory is shared")
	}
	none := func(k *api.Kernels) {}
	for i, c := range []struct {
		f      func(k *api.Kernels)
		env    string
		inputs []api.Array
		e      api.Errno
	}{
		{none, "n=2", inputs, api.OK}, {none, "m=2", inputs, api.ErrName}, {none, "n=2 n=2", inputs, api.ErrArg}, {none, "n=2", inputs[:2], api.ErrArg}, {func(k *api.Kernels) { k.Inputs = -1 }, "n=2", nil, api.ErrArg}, {func(k *api.Kernels) { k.Values, k.List, k.Results = k.Values[:2], nil, nil }, "n=2", inputs, api.ErrArg}, {func(k *api.Kernels) { k.Results[0] = 5 }, "n=2", inputs, api.ErrArg}, {func(k *api.Kernels) { k.Results[0] = -1 }, "n=2", inputs, api.ErrArg}, {func(k *api.Kernels) { k.List[1].Kind = 9 }, "n=2", inputs, api.ErrArg},
		{none, "n=2", []api.Array{inputs[0], {Elem: "x"}, inputs[2]}, api.ErrArg}, {none, "n=2", sample.Arrays("#b[2: 1 0]", "#b[: 1]", "#[: 7]"), api.ErrType}, {none, "n=3", inputs, api.ErrShape}, {none, "n=3", sample.Arrays("#[2: 5 6]", "#[: 1]", "#[: 7]"), api.ErrShape}, {none, "n=2", sample.Arrays("#[2: 5 6]", "#[: 1]", "#[: 7]"), api.ErrType}, {none, "n=2000000000", inputs, api.ErrRange}, {none, "i0=1 n=2", inputs, api.ErrArg},
		{func(k *api.Kernels) { k.Values[3].Shape.Dims = sample.Linears("m") }, "n=2", inputs, api.ErrName}, {func(k *api.Kernels) { k.Values[3].Shape.Dims = sample.Linears("n n n n n n n") }, "n=2", inputs, api.ErrRank}, {func(k *api.Kernels) { k.Values[3].Shape.Dims = sample.Linears("n-3") }, "n=2", inputs, api.ErrRange}, {func(k *api.Kernels) { k.Values[3].Shape.Dims = sample.Linears("2048n n") }, "n=2", inputs, api.ErrLimit}, {func(k *api.Kernels) { k.Values[3].Shape.Dims = sample.Linears("n-1") }, "n=2", inputs, api.ErrRange}, {func(k *api.Kernels) { k.Values[3].Elem = "A" }, "n=2", inputs, api.ErrArg}, {func(k *api.Kernels) { k.List = k.List[1:] }, "n=2", inputs, api.ErrArg}, {func(k *api.Kernels) { k.List = nil }, "n=2", inputs, api.OK},
		{func(k *api.Kernels) { k.List[0], k.List[1] = k.List[1], k.List[0] }, "n=2", inputs, api.ErrArg},
	} {
		k := clone.Kernels(k)
		c.f(&k)
		results, counts, _, e := nest.All(k, sample.Values(c.env), c.inputs)
		if e != c.e || e != api.OK && (results != nil || counts != api.Counts{}) {
			t.Errorf("%d: %d", i, e)
		}
	}
	k.List = nil
	if results, _, _, _ := nest.All(k, sample.Values("n=2"), inputs); len(results) != 3 || results[0].Elem != "" || results[1].Elem != api.Int {
		t.Errorf("%v", results)
	}
	// A value has zeros only ahead of its first kernel, even if it is an input.
	k = api.Kernels{Inputs: 1, Values: []api.Type{sample.Type("[2]int")}, Results: []int{0}}
	k.List = []api.Kernel{{Kind: api.KernelUpdate, Body: sample.Number(5), Index: sample.Number(0)}, {Kind: api.KernelUpdate, Body: sample.Number(6), Index: sample.Number(1)}}
	if results, counts, _, e := nest.All(k, nil, sample.Arrays("#[2: 8 9]")); sample.Text(results) != "#[2: 5 6] " || counts.Writes != 2 || e != api.OK {
		t.Errorf("%v %v %d", results, counts, e)
	}
}

func TestRandom(t *testing.T) { // P49.2, P49.3, P49.5
	d := sample.NewDice(16)
	ran := 0
	for range 3000 {
		n := sample.Nest(d, 2)
		env := []api.Value{{Var: "n", N: d.N(6) - 1}}
		arrays := sample.Squares(d)
		points, e := nest.Points(n, env)
		if e != api.OK {
			t.Fatalf("%d", e)
		}
		for i, p := range points {
			if i > 0 && slices.Compare(points[i-1], p) >= 0 {
				t.Fatalf("%v", points)
			}
			values := append(slices.Clone(env), api.Value{Var: "x", N: p[0]}, api.Value{Var: "y", N: p[1]})
			for k, l := range n.Loops {
				lo, _ := linear.Eval(l.Lo, values)
				isIn := p[k] >= lo && (p[k]-lo)%l.Step == 0
				for _, x := range l.Hi {
					hi, _ := linear.Eval(x, values)
					isIn = isIn && p[k] < hi
				}
				if !isIn {
					t.Fatalf("%v is no point", p)
				}
			}
		}
		out, counts, violated, e := nest.Run(n, env, arrays)
		more, other, checks, g := nest.Run(n, append([]api.Value{{Var: "unused", N: 1 << 60}}, env...), arrays)
		if e != g || counts != other || !slices.Equal(violated, checks) || !slices.EqualFunc(out, more, array.Equal) {
			t.Fatalf("%d, then %d", e, g)
		}
		if e != api.OK {
			continue
		}
		ran++
		if !n.Write.Dynamic && counts.Writes != len(points) {
			t.Fatalf("%d writes of %d points", counts.Writes, len(points))
		}
		divide(t, d, n, env, arrays, out, counts, violated)
	}
	if ran < 1000 {
		t.Errorf("%d", ran)
	}
}

// divide runs both parts of a nest.
func divide(t *testing.T, d *sample.Dice, n api.Nest, env []api.Value, arrays, out []api.Array, counts api.Counts, violated []int) {
	t.Helper()
	first, second := clone.Nest(n), clone.Nest(n)
	lo, _ := linear.Eval(n.Loops[0].Lo, env)
	at := lo + n.Loops[0].Step*d.N(4)
	first.Loops[0].Hi = append(first.Loops[0].Hi, linear.Of(at))
	second.Loops[0].Lo = linear.Of(at)
	half, a, b, e := nest.Run(first, env, arrays)
	whole, c, v, f := nest.Run(second, env, half)
	sum := api.Counts{Reads: a.Reads + c.Reads, Writes: a.Writes + c.Writes, Ops: a.Ops + c.Ops}
	all := append(b, v...)
	slices.Sort(all)
	if e != api.OK || f != api.OK || sum != counts || !slices.Equal(slices.Compact(all), violated) || !slices.EqualFunc(whole, out, array.Equal) {
		t.Fatalf("%v %v, not %v %v", whole, sum, out, counts)
	}
}

func TestKernels(t *testing.T) { // P49.4
	d := sample.NewDice(17)
	kinds := map[int]int{}
	for range 800 {
		k := fused(sample.Flat(d, 9))
		dims := sample.Dims(d, 3)
		inputs := sample.Inputs(d, k.Values[:k.Inputs], dims)
		arrays, checks, e := fuse.Run(k, dims, inputs)
		results, counts, violated, g := nest.All(k, dims, inputs)
		if e != g && e != api.ErrLimit && g != api.ErrLimit {
			t.Fatalf("%d, not %d", g, e)
		}
		if e != api.OK || g != api.OK {
			continue
		}
		if !slices.Equal(violated, checks) {
			t.Fatalf("%v, not %v", violated, checks)
		}
		writes := 0
		for i, r := range k.Results {
			if !array.Equal(results[i], arrays[r]) {
				t.Fatalf("%v, not %v", results[i], arrays[r])
			}
		}
		for at, x := range k.List {
			kinds[x.Kind]++
			l, e := nest.Of(k, at, false)
			if e != api.OK {
				t.Fatalf("%d", e)
			}
			for _, n := range l {
				points, _ := nest.Points(n, dims)
				writes += len(points)
				if x.Kind != api.KernelUpdate {
					elements(t, x, n, points, dims, arrays)
				}
			}
		}
		if writes != counts.Writes {
			t.Fatalf("%d writes, not %d", counts.Writes, writes)
		}
	}
	if len(kinds) != 3 || kinds[api.KernelScan] < 50 || kinds[api.KernelUpdate] < 50 {
		t.Errorf("%v", kinds)
	}
}

// elements runs the nest of a map or scan, and compares its elements with the values of the body.
func elements(t *testing.T, x api.Kernel, n api.Nest, points [][]int, dims []api.Value, arrays []api.Array) {
	t.Helper()
	work := clone.Each(arrays, clone.Array)
	for i := range work[x.Value].Data {
		work[x.Value].Data[i] = 0
	}
	out, _, _, e := nest.Run(n, dims, work)
	if e != api.OK {
		t.Fatalf("%d", e)
	}
	before := 0
	for i, p := range points {
		env := slices.Clone(dims)
		for k, v := range p {
			env = append(env, api.Value{Var: pull.Loop(k), N: v})
		}
		want, _, _, _ := pull.Eval(x.Body, env, arrays)
		if x.Kind == api.KernelScan && p[len(p)-1] > 0 {
			code := api.Pull{Op: "code", Fun: x.Fun, Kids: []api.Pull{sample.Number(before), sample.Number(want)}}
			want, _, _, _ = pull.Eval(code, nil, nil)
		}
		before = out[x.Value].Data[i]
		if before != want {
			t.Fatalf("%d, not %d", before, want)
		}
	}
}
