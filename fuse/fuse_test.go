package fuse_test

import (
	"fmt"
	"slices"
	"testing"

	"framewise/api"
	"framewise/array"
	"framewise/clone"
	"framewise/flat"
	"framewise/fuse"
	"framewise/linear"
	"framewise/prims"
	"framewise/pull"
	"framewise/sample"
)

var in = sample.Instr

// brief writes the kinds and values of kernels.
func brief(k api.Kernels) string {
	s := ""
	for _, x := range k.List {
		s += fmt.Sprintf("%s%d%v ", map[int]string{1: "map", 2: "scan", 3: "update"}[x.Kind], x.Value, pull.Reads(x.Body))
	}
	return s
}

func TestFuse(t *testing.T) { // P44.1, P44.3
	lists := []string{"[n]int", "[n]int", "int", "[n, m]int"}
	for i, c := range []struct {
		code    []api.Instr
		results []int
		made    []int
		want    string
	}{
		{[]api.Instr{in("mul v0@0 v0@0|n"), in("add v4@0 v1@0|n"), in("fold v2 v5")}, []int{6}, []int{6}, "map6[0 1 2] "},
		{[]api.Instr{in("mul v0@0 v0@0|n"), in("add v4@0 v1@0|n"), in("fold v2 v5")}, []int{6, 5}, []int{5, 6}, "map5[0 1] map6[2 5] "},
		{[]api.Instr{in("neg v0@0|n"), in("add v4@0 v4@0|n")}, []int{5}, []int{4, 5}, "map4[0] map5[4] "},
		{[]api.Instr{in("neg v2"), in("add v4 v0@0|n")}, []int{5}, []int{4, 5}, "map4[2] map5[0 4] "},
		{[]api.Instr{in("size ||n"), in("add v4 v4"), in("add v5 v0@0|n")}, []int{6}, []int{5, 6}, "map5[] map6[0 5] "},
		{[]api.Instr{sample.Const("#[: 5]"), in("add v4 v0@0|n"), in("add v4 v5@0|n")}, []int{6}, []int{6}, "map6[0] "},
		{[]api.Instr{sample.Const("#[2: 5 6]"), in("add v4@0 v4@0|2")}, []int{5}, []int{4, 5}, "map4[] map5[4] "},
		{[]api.Instr{in("iota ||n"), in("add v4@0 v4@0|n")}, []int{5}, []int{5}, "map5[] "},
		{[]api.Instr{in("neg v0@0|n"), in("windows v4||2")}, []int{5}, []int{4, 5}, "map4[0] map5[4] "},
		{[]api.Instr{in("neg v2"), in("fill v4||n")}, []int{5}, []int{4, 5}, "map4[2] map5[4] "},
		{[]api.Instr{in("neg v0@0|n"), in("take v4||2")}, []int{5}, []int{5}, "map5[0] "},
		{[]api.Instr{in("neg v0@0|n"), in("index v4 v2")}, []int{5}, []int{4, 5}, "map4[0] map5[2 4] "},
		{[]api.Instr{in("iota ||n"), in("index v4 v2")}, []int{5}, []int{4, 5}, "map4[] map5[2 4] "},
		{[]api.Instr{in("index v0 v2", sample.Check(3))}, []int{2}, []int{4}, "map4[0 2] "},
		{[]api.Instr{in("index v0 v2")}, []int{2}, nil, ""},
		{[]api.Instr{in("scan v3@0|n"), in("neg v4@0.1|n m")}, []int{5}, []int{4, 5}, "scan4[3] map5[4] "},
		{[]api.Instr{in("neg v0@0|n"), in("scan v4")}, []int{5}, []int{5}, "scan5[0] "},
		{[]api.Instr{in("update v0 v2 v2")}, []int{4}, []int{4}, "update4[2] "},
		{[]api.Instr{in("update v0 v1@0 v2|n")}, []int{4}, []int{4}, "map4[0] update4[2] "},
		{[]api.Instr{in("update v3@0 v1@0 v0@0|n")}, []int{4}, []int{4}, "update4[0] "},
		{[]api.Instr{in("neg v2"), in("neg v4"), in("abs v4")}, []int{5}, []int{5}, "map5[2] "},
		{nil, []int{0}, nil, ""},
	} {
		f := sample.Program("m n", lists, c.results, c.code...)
		made, e := fuse.Made(f)
		var got []int
		for v, is := range made {
			if v < 4 && !is {
				t.Errorf("%d: an input is not made", i)
			}
			if v >= 4 && is {
				got = append(got, v)
			}
		}
		k, g := fuse.Fuse(f)
		at, h := fuse.Valid(k)
		if !slices.Equal(got, c.made) || brief(k) != c.want || e != api.OK || g != api.OK || h != api.OK || at != len(k.List) {
			t.Errorf("%d: %v %s %d %d %d", i, got, brief(k), e, g, h)
		}
	}
	if _, e := fuse.Made(api.Flat{}); e != api.ErrCode {
		t.Errorf("%d", e)
	}
	if _, e := fuse.Fuse(api.Flat{}); e != api.ErrCode {
		t.Errorf("%d", e)
	}
	if k, e := fuse.Fuse(sample.Program("i7", []string{"[i7]int"}, []int{0})); e != api.ErrName || k.Values != nil {
		t.Errorf("%d", e)
	}
	long := sample.Program("n", []string{"int"}, []int{1}, api.Instr{Op: "const", Array: api.Array{Elem: "int", Dims: []int{2001}, Data: make([]int, 2001)}})
	if _, e := fuse.Fuse(long); e != api.ErrLimit {
		t.Errorf("%d", e)
	}
	if made, e := fuse.Made(long); !slices.Equal(made, []bool{true, true}) || e != api.OK {
		t.Errorf("%v %d", made, e)
	}
}

func read(v int, at string) api.Pull {
	return api.Pull{Op: "read", Value: v, At: sample.Linears(at)}
}

func num(n int) api.Pull { return api.Pull{Op: "const", Num: n} }

// good has a map, a scan, a map that is updated, and an update of an input.
func good() api.Kernels {
	k := api.Kernels{Vars: []string{"m", "n"}, Where: sample.Linears("n"), Inputs: 3, Results: []int{3, 5, 6}}
	for _, s := range []string{"[n]int", "int", "[n]bool", "[n]int", "[n]bool", "[m, n]int", "[n]int"} {
		k.Values = append(k.Values, sample.Type(s))
	}
	k.List = []api.Kernel{
		{Kind: api.KernelMap, Value: 3, Space: sample.Linears("n"), Body: api.Pull{Op: "add", Kids: []api.Pull{read(0, "i0"), read(1, "")}}},
		{Kind: api.KernelScan, Value: 4, Space: sample.Linears("n"), Body: read(2, "i0"), Fun: sample.Prim("or")},
		{Kind: api.KernelMap, Value: 5, Space: sample.Linears("m n"), Body: read(3, "i1")},
		{Kind: api.KernelUpdate, Value: 5, Space: sample.Linears("m"), Body: num(9), Index: read(1, ""), Source: 5, Check: 4},
		{Kind: api.KernelUpdate, Value: 6, Body: num(8), Index: num(0), Source: 0},
	}
	return k
}

func TestValid(t *testing.T) { // P44.1
	if at, e := fuse.Valid(good()); at != 5 || e != api.OK {
		t.Fatalf("%d %d", at, e)
	}
	for i, c := range []struct {
		f  func(k *api.Kernels)
		at int
	}{
		{func(k *api.Kernels) { k.Vars = []string{"n", "m"} }, -1}, {func(k *api.Kernels) { k.Vars[0] = "i3" }, -1}, {func(k *api.Kernels) { k.Vars[0] = "M" }, -1}, {func(k *api.Kernels) { k.Vars = k.Vars[1:] }, -1}, {func(k *api.Kernels) { k.Where = sample.Linears("k") }, -1}, {func(k *api.Kernels) { k.Where = []api.Linear{linear.Var("N")} }, -1}, {func(k *api.Kernels) { k.Values[6].Elem = "A" }, -1}, {func(k *api.Kernels) { k.Values[6].Shape.Row = "r" }, -1}, {func(k *api.Kernels) { k.Values[6].Shape.Dims = sample.Linears("k") }, -1}, {func(k *api.Kernels) { k.Inputs = -1 }, -1}, {func(k *api.Kernels) { k.Inputs = 9 }, -1}, {func(k *api.Kernels) { k.Inputs = 8 }, -1}, {func(k *api.Kernels) { k.Values = slices.Repeat(k.Values, 60) }, -1}, {func(k *api.Kernels) { k.List = slices.Repeat(k.List, 81) }, -1},
		{func(k *api.Kernels) { k.Inputs = 4 }, 0}, {func(k *api.Kernels) { k.List[0].Value = 7 }, 0}, {func(k *api.Kernels) { k.List[0].Value = -1 }, 0}, {func(k *api.Kernels) { k.List[1].Value = 3 }, 1}, {func(k *api.Kernels) { k.List[0].Kind = 4 }, 0}, {func(k *api.Kernels) { k.List[0].Kind = 0 }, 0}, {func(k *api.Kernels) { k.List[0].Space = sample.Linears("m") }, 0}, {func(k *api.Kernels) { k.List[0].Fun = sample.Prim("add") }, 0}, {func(k *api.Kernels) { k.List[0].Source = 1 }, 0}, {func(k *api.Kernels) { k.List[0].Index = num(0) }, 0}, {func(k *api.Kernels) { k.List[0].Check = 1 }, 0}, {func(k *api.Kernels) { k.List[0].Body = read(3, "i0") }, 0}, {func(k *api.Kernels) { k.List[0].Body = read(4, "i0") }, 0}, {func(k *api.Kernels) { k.List[0].Body = read(0, "i1") }, 0}, {func(k *api.Kernels) { k.List[0].Body = api.Pull{} }, 0},
		{func(k *api.Kernels) { k.List[1].Fun = sample.Prim("add") }, 1}, {func(k *api.Kernels) { k.List[1].Fun = sample.Prim("neg"); k.List[1].Body = read(0, "i0") }, 1}, {func(k *api.Kernels) { k.List[1].Fun = []api.Step{{Op: "add"}} }, 1}, {func(k *api.Kernels) { k.List[1].Source = 1 }, 1}, {func(k *api.Kernels) { k.List[1].Body = num(2) }, 1}, {func(k *api.Kernels) { k.List[1].Check = 1 }, 1},
		{func(k *api.Kernels) { k.List[3].Check = -1 }, 3}, {func(k *api.Kernels) { k.List[3].Space = sample.Linears("m n") }, 3}, {func(k *api.Kernels) { k.List[3].Index = read(5, "i0 i0") }, 3}, {func(k *api.Kernels) { k.List[3].Body = read(5, "i0 i0") }, 3}, {func(k *api.Kernels) { k.List[3].Index = api.Pull{} }, 3}, {func(k *api.Kernels) { k.List[3].Source = 0 }, 3}, {func(k *api.Kernels) { k.List[3].Fun = sample.Prim("add") }, 3}, {func(k *api.Kernels) { k.List[3], k.List[4] = k.List[4], k.List[3] }, 4}, {func(k *api.Kernels) { k.List = slices.Insert(k.List, 4, k.List[3]) }, 4}, {func(k *api.Kernels) { k.List = k.List[:3]; k.Results = nil }, 3},
		{func(k *api.Kernels) { k.List[4].Source = 6 }, 4}, {func(k *api.Kernels) { k.List[4].Source = 2 }, 4}, {func(k *api.Kernels) { k.List[4].Source = 9 }, 4}, {func(k *api.Kernels) { k.List[4].Source = -1 }, 4}, {func(k *api.Kernels) { k.Values[6].Shape.Dims = nil }, 4},
		{func(k *api.Kernels) { k.Results = nil }, 5}, {func(k *api.Kernels) { k.Results = []int{7} }, 5}, {func(k *api.Kernels) { k.Results = []int{-1} }, 5}, {func(k *api.Kernels) { k.Results = make([]int, 9) }, 5}, {func(k *api.Kernels) { k.List = k.List[:4] }, 4},
	} {
		k := clone.Kernels(good())
		c.f(&k)
		at, e := fuse.Valid(k)
		if at != c.at || e != api.ErrCode {
			t.Errorf("%d: %d %d", i, at, e)
		}
		if _, _, g := fuse.Run(k, nil, nil); g != api.ErrCode || fuse.Equal(k, good()) {
			t.Errorf("%d: %d", i, g)
		}
	}
	if !fuse.Equal(good(), clone.Kernels(good())) || !fuse.Equal(api.Kernels{List: []api.Kernel{}}, api.Kernels{}) {
		t.Error("Equal")
	}
}

func TestTruth(t *testing.T) { // P44.1
	b, x := read(2, "i0"), read(0, "i0")
	op := func(name string, kids ...api.Pull) api.Pull { return api.Pull{Op: name, Kids: kids} }
	loop := func(fun string, a, c api.Pull) api.Pull {
		return api.Pull{Op: "reduce", Name: "j0", At: sample.Linears("n"), Fun: sample.Prim(fun), Kids: []api.Pull{a, c}}
	}
	code := func(fun []api.Step, kids ...api.Pull) api.Pull { return api.Pull{Op: "code", Fun: fun, Kids: kids} }
	for i, c := range []struct {
		p    api.Pull
		want bool
	}{
		{num(0), true}, {num(1), true}, {num(2), false}, {b, true}, {x, false}, {api.Pull{Op: "linear", At: sample.Linears("0")}, false}, {op("lt", x, x), true}, {op("eq", x, b), true}, {op("and", b, num(1)), true}, {op("and", b, x), false}, {op("not", x), false}, {op("min", b, b), false}, {op("toint", b), false}, {op("select", x, b, num(0)), true}, {op("select", b, b, x), false}, {api.Pull{Op: "if", At: sample.Linears("n"), Kids: []api.Pull{b, b}}, true}, {api.Pull{Op: "if", At: sample.Linears("n"), Kids: []api.Pull{b, x}}, false}, {loop("or", b, b), true}, {loop("or", b, x), false}, {loop("or", x, b), false}, {loop("lt", b, x), true}, {loop("add", b, b), false}, {code(sample.Prim("xor"), b, b), true}, {code(sample.Prim("xor"), b, x), false}, {code(nil, x, b), true}, {code(nil, b, x), false}, {code([]api.Step{{Op: "truth", Num: 1}}), true}, {code([]api.Step{{Op: "const", Num: 2}}), false}, {code([]api.Step{{Op: "const", Num: 1}, {Op: "and", Args: []int{0, 1}}}, b), true},
		{api.Pull{Op: "read", Value: 2, Dynamic: true, Kids: []api.Pull{x}}, true},
	} {
		k := good()
		k.List[1] = api.Kernel{Kind: api.KernelMap, Value: 4, Space: sample.Linears("n"), Body: c.p}
		if _, e := fuse.Valid(k); (e == api.OK) != c.want {
			t.Errorf("%d", i)
		}
	}
}

func TestRun(t *testing.T) { // P44.1
	k := good()
	inputs := sample.Arrays("#[2: 5 6]", "#[: 1]", "#b[2: 0 1]")
	arrays, violated, e := fuse.Run(k, sample.Values("m=2 n=2"), inputs)
	if got := sample.Text(arrays); got != "#[2: 5 6] #[: 1] #b[2: 0 1] #[2: 6 7] #b[2: 0 1] #[2 2: 6 9 6 9] #[2: 8 6] " || violated != nil || e != api.OK {
		t.Errorf("%s %v %d", got, violated, e)
	}
	inputs[1].Data[0] = 2
	arrays, violated, e = fuse.Run(k, sample.Values("m=2 n=2"), inputs)
	if got := sample.Text(arrays[5:6]); got != "#[2 2: 7 8 7 8] " || !slices.Equal(violated, []int{4}) || e != api.OK || arrays[0].Data[0] != 5 {
		t.Errorf("%s %v %d", got, violated, e)
	}
	if arrays[0].Data[0] = 99; inputs[0].Data[0] != 5 {
		t.Error("memory is shared")
	}
	bad := slices.Clone(inputs)
	bad[0].Data = []int{1 << 40, 0}
	huge := good()
	huge.Values[5].Shape.Dims = sample.Linears("4096m n")
	huge.List[2].Space = sample.Linears("4096m n")
	huge.List[3].Space = sample.Linears("4096m")
	type change = func(k *api.Kernels)
	for i, c := range []struct {
		f      change
		dims   string
		inputs []api.Array
		e      api.Errno
	}{
		{func(k *api.Kernels) { k.Where = sample.Linears("n-5") }, "m=2 n=2", inputs, api.ErrRange}, {func(k *api.Kernels) {}, "m=2", inputs, api.ErrArg}, {func(k *api.Kernels) {}, "n=2 m=2", inputs, api.ErrArg}, {func(k *api.Kernels) {}, "m=2 n=4097", inputs, api.ErrArg}, {func(k *api.Kernels) {}, "m=2 n=2", inputs[:2], api.ErrArg}, {func(k *api.Kernels) {}, "m=2 n=2", bad, api.ErrArg}, {func(k *api.Kernels) {}, "m=2 n=3", sample.Arrays("#[2: 5 6]", "#[: 1]", "#[2: 0 1]"), api.ErrType}, {func(k *api.Kernels) {}, "m=2 n=3", inputs, api.ErrShape}, {func(k *api.Kernels) { *k = huge }, "m=2 n=2", inputs, api.ErrLimit}, {func(k *api.Kernels) { *k = huge }, "m=1 n=0", sample.Arrays("#[0:]", "#[: 1]", "#b[0:]"), api.OK}, {func(k *api.Kernels) { *k = huge }, "m=2 n=0", sample.Arrays("#[0:]", "#[: 1]", "#b[0:]"), api.ErrLimit},
		{func(k *api.Kernels) {
			k.Values[5].Shape.Dims, k.List[2].Space, k.List[3].Space = sample.Linears("m-3 n"), sample.Linears("m-3 n"), sample.Linears("m-3")
		}, "m=2 n=2", inputs, api.ErrLimit},
		{func(k *api.Kernels) { k.List[0].Body = read(0, "i0+1") }, "m=2 n=2", inputs, api.ErrRange}, {func(k *api.Kernels) { k.List[0].Body = read(0, "") }, "m=2 n=2", inputs, api.ErrRank}, {func(k *api.Kernels) { k.List[0].Body = api.Pull{Op: "not", Kids: []api.Pull{num(2)}} }, "m=2 n=2", inputs, api.ErrType}, {func(k *api.Kernels) { k.List[3].Index, k.List[3].Body = read(0, "7"), read(0, "") }, "m=2 n=2", inputs, api.ErrRange}, {func(k *api.Kernels) {
			k.List[0] = api.Kernel{Kind: api.KernelScan, Value: 3, Space: sample.Linears("n"), Body: read(0, "i0"), Fun: sample.Prim("and")}
		}, "m=2 n=2", inputs, api.ErrType},
	} {
		k := clone.Kernels(good())
		c.f(&k)
		if arrays, _, e := fuse.Run(k, sample.Values(c.dims), c.inputs); e != c.e || e != api.OK && arrays != nil {
			t.Errorf("%d: %d", i, e)
		}
	}
}

func TestRandom(t *testing.T) { // P44.2, P44.3, P44.4, P44.5
	d := sample.NewDice(9)
	compared, fused := 0, 0
	for range 1500 {
		f := sample.Flat(d, 9)
		k, e := fuse.Fuse(f)
		if at, g := fuse.Valid(k); e != api.OK || g != api.OK {
			t.Fatalf("%d: kernel %d", e, at)
		}
		fused += len(f.Code) - len(k.List)
		for _, x := range k.List {
			c := f.Code[x.Value-len(f.Inputs)]
			uses, isSource := 0, false
			for _, o := range f.Code {
				for j, a := range o.Args {
					if a == x.Value {
						uses++
						isSource = isSource || j == 0 && (o.Op == "index" || o.Op == "update") || len(o.Axes[j]) < len(o.Frame) || o.Op == "windows" || o.Op == "fill"
					}
				}
			}
			if !slices.Contains(f.Results, x.Value) && !isSource && c.Check == 0 && c.Op != "scan" && c.Op != "update" && uses < 2 {
				t.Fatalf("%s: v%d needs no kernel", c.Op, x.Value)
			}
		}
		more := clone.Flat(f)
		last := in("neg v2")
		last.Type = sample.Type("int")
		more.Code = append(more.Code, last)
		if l, _ := fuse.Fuse(more); len(l.List) != len(k.List) {
			t.Fatal("a dead instruction has a kernel")
		}
		dims := sample.Dims(d, 3)
		inputs := sample.Inputs(d, f.Inputs, dims)
		want, checks, e := flat.Run(f, dims, inputs)
		arrays, violated, g := fuse.Run(k, dims, inputs)
		if e == api.ErrLimit || g == api.ErrLimit {
			continue
		}
		if e != g {
			t.Fatalf("%d, then %d", e, g)
		}
		compared++
		for i, r := range f.Results {
			if e == api.OK && !array.Equal(arrays[r], want[i]) {
				t.Fatalf("%v, not %v", arrays[r], want[i])
			}
		}
		if !slices.Equal(violated, checks) {
			t.Fatalf("%v, not %v", violated, checks)
		}
		if e == api.OK {
			if a, b := flatOps(f, dims), kernelOps(k, dims, inputs); b > a {
				t.Fatalf("%d operations, then %d", a, b)
			}
		}
	}
	if compared < 800 || fused < 1000 {
		t.Errorf("%d %d", compared, fused)
	}
}

// size returns the product of dimensions.
func size(l []api.Linear, dims []api.Value) int {
	n := 1
	for _, x := range l {
		v, _ := linear.Eval(x, dims)
		n *= v
	}
	return n
}

// flatOps returns the scalar operations of a flat program.
func flatOps(f api.Flat, dims []api.Value) int {
	ops := 0
	all := flat.Types(f)
	for _, c := range f.Code {
		out := size(c.Type.Shape.Dims, dims)
		switch sig, ok := prims.Sig(c.Op); {
		case ok && sig.Scalar:
			ops += out
		case c.Op == "fold":
			list := all[c.Args[1]].Shape.Dims
			ops += out * size(list[len(list)-1:], dims)
		case c.Op == "scan":
			ops += max(out-size(c.Frame, dims), 0)
		}
	}
	return ops
}

// kernelOps returns the scalar operations of kernels.
func kernelOps(k api.Kernels, dims []api.Value, inputs []api.Array) int {
	arrays, _, _ := fuse.Run(k, dims, inputs)
	m := fuse.NewMeter(dims)
	ops := 0
	for i, x := range k.List {
		fuse.Execute(k, i, m, arrays)
		if x.Kind == api.KernelScan {
			ops += max(size(x.Space, dims)-size(x.Space[:len(x.Space)-1], dims), 0)
		}
	}
	return ops + m.Counts.Ops
}
