package unique_test

import (
	"slices"
	"testing"

	"framewise/api"
	"framewise/array"
	"framewise/clone"
	"framewise/fuse"
	"framewise/lifetime"
	"framewise/linear"
	"framewise/sample"
	"framewise/unique"
)

var in = sample.Instr

func fused(f api.Flat) api.Kernels {
	k, e := fuse.Fuse(f)
	if e != api.OK {
		panic(e)
	}
	return k
}

func read(v int, at string) api.Pull {
	return api.Pull{Op: "read", Value: v, At: sample.Linears(at)}
}

func add(kids ...api.Pull) api.Pull { return api.Pull{Op: "add", Kids: kids} }

func TestOwn(t *testing.T) { // P46.1
	dynamic := api.Pull{Op: "read", Value: 1, At: sample.Linears("i0"), Dynamic: true, Kids: []api.Pull{read(2, "i0")}}
	loop := api.Pull{Op: "reduce", Name: "j0", At: sample.Linears("n"), Fun: sample.Prim("add"), Kids: []api.Pull{read(1, "i0"), read(1, "j0")}}
	for i, c := range []struct {
		p       api.Pull
		v, rank int
		want    bool
	}{
		{read(1, "i0"), 1, 1, true}, {read(1, "i0"), 1, 2, false}, {read(1, "i0"), 1, 0, false}, {read(1, "i0"), 1, -1, false}, {read(1, "i0"), 2, 7, true}, {read(1, ""), 1, 0, true}, {read(1, "i0 i1"), 1, 2, true}, {read(1, "i1 i0"), 1, 2, false}, {read(1, "i0+1"), 1, 1, false}, {read(1, "2i0"), 1, 1, false}, {read(1, "n"), 1, 1, false}, {read(1, "i0 i0"), 1, 2, false},
		{dynamic, 1, 1, false}, {dynamic, 1, 2, false}, {dynamic, 2, 1, true}, {dynamic, 3, 1, true}, {add(read(1, "i0"), read(1, "i0")), 1, 1, true}, {add(read(1, "i0"), read(1, "i1")), 1, 1, false}, {add(read(0, "i1"), add(read(1, ""), read(2, ""))), 1, 1, false}, {loop, 1, 1, false}, {loop, 0, 1, true}, {api.Pull{}, 0, 0, true},
		{api.Pull{Op: "read", Dynamic: true, Value: 1, At: sample.Linears("i0")}, 1, 1, false},
	} {
		if got := unique.Own(c.p, c.v, c.rank); got != c.want {
			t.Errorf("%d: %v", i, got)
		}
	}
}

func TestChoices(t *testing.T) { // P46.1, P46.3
	lists := []string{"[n]int", "[n]int", "[n]bool", "int", "[n, n]int", "[n, m]int"}
	for i, c := range []struct {
		code    []api.Instr
		results []int
		want    []int
	}{
		{[]api.Instr{in("add v0@0 v1@0|n")}, []int{6}, []int{0}},
		{[]api.Instr{in("add v0@0 v1@0|n")}, []int{6, 0}, []int{1}},
		{[]api.Instr{in("add v0@0 v1@0|n")}, []int{6, 0, 1}, []int{-1}},
		{[]api.Instr{in("add v1@0 v0@0|n"), in("add v1@0 v6@0|n")}, []int{7, 6}, []int{0, 1}},
		{[]api.Instr{in("neg v0@0|n"), in("abs v0@0|n")}, []int{6, 7}, []int{-1, 0}},
		{[]api.Instr{in("reverse v0")}, []int{6}, []int{-1}},
		{[]api.Instr{in("reverse v0"), in("add v0@0 v6@0|n")}, []int{7}, []int{-1}},
		{[]api.Instr{in("not v2@0|n")}, []int{6}, []int{2}},
		{[]api.Instr{in("lt v0@0 v1@0|n")}, []int{6}, []int{-1}},
		{[]api.Instr{in("neg v3")}, []int{6}, []int{3}},
		{[]api.Instr{in("add v3 v0@0|n")}, []int{6}, []int{0}},
		{[]api.Instr{in("fold v3 v0")}, []int{6}, []int{3}},
		{[]api.Instr{in("transpose v4")}, []int{6}, []int{-1}},
		{[]api.Instr{in("add v4@0.1 v4@0.1|n n")}, []int{6}, []int{4}},
		{[]api.Instr{in("transpose v4"), in("add v4@0.1 v6@0.1|n n")}, []int{7}, []int{-1}},
		{[]api.Instr{in("take v5@0|n|m")}, []int{6}, []int{5}},
		{[]api.Instr{in("take v5@0|n|n")}, []int{6}, []int{-1}},
		{[]api.Instr{in("scan v0")}, []int{6}, []int{0}},
		{[]api.Instr{in("reverse v0"), in("scan v6")}, []int{7}, []int{-1}},
		{[]api.Instr{in("scan v4@0|n")}, []int{6}, []int{4}},
		{[]api.Instr{in("index v0 v3")}, []int{6}, []int{3}},
		{[]api.Instr{in("index v0 v1@0|n")}, []int{6}, []int{1}},
		{[]api.Instr{in("index v0 v0@0|n")}, []int{6}, []int{-1}},
		{[]api.Instr{in("update v0 v3 v3")}, []int{6}, []int{0}},
		{[]api.Instr{in("update v0 v3 v3")}, []int{6, 0}, []int{-1}},
		{[]api.Instr{in("index v0 v3"), in("update v0 v6 v3")}, []int{7}, []int{-1}},
		{[]api.Instr{in("index v0 v3", sample.Check(1)), in("update v0 v6 v3")}, []int{7}, []int{-1, 0}},
		{[]api.Instr{in("index v0 v3"), in("update v0 v3 v6")}, []int{7}, []int{-1}},
		{[]api.Instr{in("update v4@0 v0@0 v1@0|n")}, []int{6}, []int{4}},
		{[]api.Instr{in("update v0 v1@0 v3|n")}, []int{6}, []int{-1, -1}},
		{[]api.Instr{in("update v0 v1@0 v3|n"), in("neg v6@0.1|n n")}, []int{7}, []int{-1, -1, 6}},
		{nil, []int{0}, nil},
	} {
		k := fused(sample.Program("m n", lists, c.results, c.code...))
		got, e := unique.Choices(k)
		if !slices.Equal(got, c.want) || e != api.OK {
			t.Errorf("%d: %v %d", i, got, e)
		}
	}
	if _, e := unique.Choices(api.Kernels{}); e != api.ErrCode {
		t.Errorf("%d", e)
	}
}

func TestMay(t *testing.T) { // P46.1
	k := fused(sample.Program("n", []string{"[n]int", "[n]int", "int"}, []int{3}, in("add v0@0 v1@0|n")))
	for i, c := range []struct {
		at, v int
		want  bool
	}{{0, 0, true}, {0, 1, true}, {0, 2, false}, {0, 3, false}, {0, 4, false}, {0, -1, false}, {1, 0, false}, {-1, 0, false}} {
		if got := unique.May(k, c.at, c.v); got != c.want {
			t.Errorf("%d: %v", i, got)
		}
	}
	if unique.May(api.Kernels{}, 0, 0) {
		t.Error("a program that is not valid")
	}
	// A value that the second kernel of another one reads last.
	k = api.Kernels{Vars: []string{"n"}, Inputs: 2, Values: []api.Type{sample.Type("[n]int"), sample.Type("[n]int"), sample.Type("[n]int")}, Results: []int{2}}
	k.List = []api.Kernel{{Kind: api.KernelMap, Value: 2, Space: sample.Linears("n"), Body: read(0, "i0")}, {Kind: api.KernelUpdate, Value: 2, Source: 2, Body: read(1, "0"), Index: read(0, "0")}}
	if unique.May(k, 0, 0) || unique.May(k, 1, 0) || unique.May(k, 1, 1) || unique.May(k, 1, 2) {
		t.Error("the second kernel of a value")
	}
	k.List[1].Index = read(1, "0")
	if !unique.May(k, 0, 0) {
		t.Error("the first kernel of a value")
	}
}

func TestRun(t *testing.T) { // P46.1
	k := fused(sample.Program("n", []string{"[n]int", "[n]int", "int"}, []int{4, 4}, in("add v0@0 v1@0|n"), in("update v3 v2 v2", sample.Check(5))))
	inputs := sample.Arrays("#[2: 5 6]", "#[2: 7 8]", "#[: 2]")
	for i, c := range []struct {
		choices  []int
		at       int
		want     string
		violated []int
		e        api.Errno
	}{
		{[]int{-1, -1}, 1, "#[2: 12 1] #[2: 12 1] ", nil, 0}, {[]int{0, 3}, 1, "#[2: 12 1] #[2: 12 1] ", nil, 0}, {[]int{1, 3}, 2, "#[2: 12 14] #[2: 12 14] ", []int{5}, 0}, {[]int{1, 3}, -1, "#[2: 12 14] #[2: 12 14] ", []int{5}, 0}, {[]int{0, -1}, 0, "#[2: 0 14] #[2: 0 14] ", nil, 0}, {[]int{0}, 0, "", nil, api.ErrArg}, {[]int{0, 3, -1}, 0, "", nil, api.ErrArg}, {nil, 0, "", nil, api.ErrArg}, {[]int{2, 3}, 0, "", nil, api.ErrArg}, {[]int{0, 0}, 0, "", nil, api.ErrArg}, {[]int{-2, 3}, 0, "", nil, api.ErrArg}, {[]int{9, 3}, 0, "", nil, api.ErrArg}, {[]int{0, 4}, 0, "", nil, api.ErrArg},
	} {
		inputs[2].Data[0] = c.at
		results, violated, e := unique.Run(k, c.choices, sample.Values("n=2"), inputs)
		if got := sample.Text(results); got != c.want || !slices.Equal(violated, c.violated) || e != c.e {
			t.Errorf("%d: %s %v %d", i, got, violated, e)
		}
		if e == api.OK {
			results[0].Data[0]++
			if results[1].Data[0] == results[0].Data[0] || inputs[0].Data[0] != 5 || inputs[1].Data[0] != 7 {
				t.Error("memory is shared")
			}
		}
	}
	choices := []int{0, 3}
	other := fused(sample.Program("n", []string{"[n]int", "[n]int", "int"}, []int{4}, in("add v0@0 v1@0|n"), in("append v3 v3"), in("update v4 v2 v2")))
	short := clone.Kernels(k)
	short.Where = []api.Linear{linear.Of(-1)}
	for i, c := range []struct {
		k      api.Kernels
		dims   string
		inputs []api.Array
		e      api.Errno
	}{
		{api.Kernels{}, "", nil, api.ErrCode}, {k, "", inputs, api.ErrArg}, {k, "n=4097", inputs, api.ErrArg}, {k, "n=2", inputs[1:], api.ErrArg}, {short, "n=2", inputs, api.ErrRange}, {k, "n=2", sample.Arrays("#[3: 5 6 7]", "#b[2: 1 1]", "#[: 2]"), api.ErrType}, {k, "n=3", inputs, api.ErrShape},
	} {
		if results, _, e := unique.Run(c.k, choices, sample.Values(c.dims), c.inputs); e != c.e || results != nil {
			t.Errorf("%d: %d", i, e)
		}
	}
	if at, e := unique.Choices(other); e != api.OK || len(at) != 2 {
		t.Errorf("%v %d", at, e)
	}
	great := sample.Arrays("#[0:]", "#[0:]", "#[: 0]")
	for i := range 2 {
		great[i] = api.Array{Elem: api.Int, Dims: []int{3000}, Data: make([]int, 3000)}
	}
	if _, _, e := unique.Run(other, []int{0, -1}, sample.Values("n=3000"), great); e != api.ErrLimit {
		t.Errorf("%d", e)
	}
	wrong := clone.Kernels(k)
	wrong.List[0].Body = add(read(0, "i0"), read(1, "i0+1"))
	if _, _, e := unique.Run(wrong, choices, sample.Values("n=2"), inputs); e != api.ErrRange {
		t.Errorf("%d", e)
	}
}

func TestRandom(t *testing.T) { // P46.2, P46.3, P46.4
	d := sample.NewDice(12)
	taken := 0
	for range 1500 {
		k := fused(sample.Flat(d, 9))
		choices, _ := unique.Choices(k)
		dims := sample.Dims(d, 4)
		inputs := sample.Inputs(d, k.Values[:k.Inputs], dims)
		sizes, g := lifetime.Sizes(k, dims)
		found := map[int]bool{}
		some := slices.Clone(choices)
		for at, c := range choices {
			least := -1
			for v := range k.Values {
				if !unique.May(k, at, v) {
					continue
				}
				if least < 0 || d.N(2) == 0 {
					some[at] = v
				}
				if least < 0 {
					least = v
				}
				if found[v] || slices.Contains(k.Results, v) || g == api.OK && sizes[v] != sizes[k.List[at].Value] {
					t.Fatalf("v%d is taken", v)
				}
			}
			if c != least {
				t.Fatalf("%d, not %d", c, least)
			}
			if c >= 0 {
				found[c] = true
				taken++
			}
			if d.N(3) == 0 {
				some[at] = -1
			}
		}
		arrays, checks, e := fuse.Run(k, dims, inputs)
		for _, l := range [][]int{choices, some} {
			results, violated, g := unique.Run(k, l, dims, inputs)
			if e != g || !slices.Equal(violated, checks) {
				t.Fatalf("%d %v, not %d %v", g, violated, e, checks)
			}
			for i, a := range results {
				if !array.Equal(a, arrays[k.Results[i]]) {
					t.Fatalf("%v, not %v", a, arrays[k.Results[i]])
				}
			}
		}
	}
	if taken < 500 {
		t.Errorf("%d", taken)
	}
}
