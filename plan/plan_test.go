package plan_test

import (
	"slices"
	"testing"

	"framewise/api"
	"framewise/array"
	"framewise/clone"
	"framewise/fuse"
	"framewise/lifetime"
	"framewise/linear"
	"framewise/plan"
	"framewise/sample"
	"framewise/unique"
)

var in = sample.Instr

func fused(f api.Flat) api.Kernels {
	k, e := fuse.Fuse(f)
	if e != api.OK {
		panic(e)
	}
	return k
}

func places(l ...int) []api.Place {
	var out []api.Place
	for i := 0; i < len(l); i += 2 {
		out = append(out, api.Place{Offset: l[i], Size: l[i+1]})
	}
	return out
}

func TestFit(t *testing.T) { // P47.1, P47.2
	for i, c := range []struct {
		places     []api.Place
		size, want int
	}{
		{places(0, 4, 6, 4), 2, 4}, {places(0, 4, 6, 4), 3, 10}, {places(6, 4, 0, 4), 2, 4}, {places(6, 4, 0, 4), 0, 0}, {nil, 9, 0}, {places(1, 1), 1, 0}, {places(1, 1), 2, 2}, {places(0, 5, 2, 9, 1, 1), 1, 11}, {places(0, 5, 2, 1), 1, 5}, {places(0, 0, 1, 0, 2, 0), 3, 0}, {places(0, 2, 2, 0, 5, 1), 3, 2},
		{nil, -1, -1}, {nil, plan.MaxSize, 0}, {nil, plan.MaxSize + 1, -1}, {places(-1, 0), 0, -1}, {places(-1, 1), 1, -1}, {places(0, -1), 1, -1}, {places(plan.MaxSize+1, 0), 0, -1}, {places(0, plan.MaxSize+1), 1, -1}, {places(0, plan.MaxSize, plan.MaxSize, plan.MaxSize), 1, 2 * plan.MaxSize}, {places(0, plan.MaxSize, plan.MaxSize, plan.MaxSize), plan.MaxSize, 2 * plan.MaxSize},
	} {
		if got := plan.Fit(c.places, c.size); got != c.want {
			t.Errorf("%d: %d", i, got)
		}
	}
	d := sample.NewDice(13)
	for range 3000 {
		var l []api.Place
		for range d.N(6) {
			l = append(l, api.Place{Offset: d.N(20), Size: d.N(5)})
		}
		before := slices.Clone(l)
		size := d.N(5)
		want := 0
		for slices.ContainsFunc(l, func(p api.Place) bool {
			_, ok := plan.Common(p, api.Place{Offset: want, Size: size})
			return ok
		}) {
			want++
		}
		if got := plan.Fit(l, size); got != want || !slices.Equal(l, before) {
			t.Fatalf("%v %d: %d", l, size, got)
		}
	}
}

func TestMake(t *testing.T) { // P47.1, P47.6
	lists := []string{"[n]int", "[n]int", "int", "[5]int"}
	for i, c := range []struct {
		code    []api.Instr
		results []int
		want    api.Plan
	}{
		{[]api.Instr{in("add v0@0 v1@0|n")}, []int{4}, api.Plan{Places: places(0, 3, 3, 3, 6, 1, 7, 5, 0, 3), InPlace: []int{0}, Peak: 12}},
		{[]api.Instr{in("reverse v0")}, []int{4}, api.Plan{Places: places(0, 3, 3, 3, 6, 1, 7, 5, 3, 3), InPlace: []int{-1}, Peak: 12}},
		{[]api.Instr{in("reverse v0")}, []int{4, 1, 3}, api.Plan{Places: places(0, 3, 3, 3, 6, 1, 7, 5, 12, 3), InPlace: []int{-1}, Peak: 15}},
		{[]api.Instr{in("neg v0@0|n"), in("abs v4@0|n")}, []int{5}, api.Plan{Places: places(0, 3, 3, 3, 6, 1, 7, 5, -1, 0, 0, 3), InPlace: []int{0}, Peak: 12}},
		{[]api.Instr{in("update v0 v1@0 v2|n"), in("add v2 v4@0.1|n n")}, []int{5, 3}, api.Plan{Places: places(0, 3, 3, 3, 6, 1, 7, 5, 12, 9, 12, 9), InPlace: []int{-1, -1, 4}, Peak: 21}},
		{nil, []int{1}, api.Plan{Places: places(0, 3, 3, 3, 6, 1, 7, 5), Peak: 12}},
		{[]api.Instr{in("take v0||0")}, []int{4}, api.Plan{Places: places(0, 3, 3, 3, 6, 1, 7, 5, 0, 0), InPlace: []int{-1}, Peak: 12}},
	} {
		k := fused(sample.Program("n", lists, c.results, c.code...))
		p, e := plan.Make(k, sample.Values("n=3"))
		if !plan.Equal(p, c.want) || e != api.OK || !plan.Sound(k, p, sample.Values("n=3")) {
			t.Errorf("%d: %v %d", i, p, e)
		}
	}
	k := fused(sample.Program("n", lists, []int{4}, in("append v0 v1")))
	for i, c := range []struct {
		k    api.Kernels
		dims string
		e    api.Errno
	}{
		{api.Kernels{}, "", api.ErrCode}, {k, "", api.ErrArg}, {k, "n=4097", api.ErrArg}, {k, "n=-1", api.ErrArg}, {k, "n=2049", api.ErrLimit},
	} {
		if p, e := plan.Make(c.k, sample.Values(c.dims)); e != c.e || !plan.Equal(p, api.Plan{}) {
			t.Errorf("%d: %d", i, e)
		}
	}
	k.Where = sample.Linears("n-5")
	if _, e := plan.Make(k, sample.Values("n=3")); e != api.ErrRange {
		t.Errorf("%d", e)
	}
	p := api.Plan{Places: places(0, 3), InPlace: []int{1}, Peak: 3}
	for i, q := range []api.Plan{{Places: places(0, 2), InPlace: []int{1}, Peak: 3}, {Places: places(1, 3), InPlace: []int{1}, Peak: 3}, {Places: places(0, 3), InPlace: []int{0}, Peak: 3}, {Places: places(0, 3), InPlace: []int{1}, Peak: 4}, {}} {
		if plan.Equal(p, q) {
			t.Errorf("%d", i)
		}
	}
	if !plan.Equal(api.Plan{InPlace: []int{}}, api.Plan{}) {
		t.Error("empty lists")
	}
}

func TestSound(t *testing.T) { // P47.1
	k := fused(sample.Program("n", []string{"[n]int", "[n]int", "int"}, []int{4, 3}, in("add v0@0 v1@0|n"), in("reverse v3"), in("neg v2")))
	dims := sample.Values("n=2")
	good := func() api.Plan {
		return api.Plan{Places: places(0, 2, 2, 2, 4, 1, 0, 2, 2, 2, -1, 0), InPlace: []int{7, -9}, Peak: 5}
	}
	for i, c := range []struct {
		f    func(p *api.Plan)
		want bool
	}{
		{func(p *api.Plan) {}, true}, {func(p *api.Plan) { p.Places[3].Offset, p.Places[4].Offset = 2, 0 }, true}, {func(p *api.Plan) { p.Places[4].Offset = 3 }, true}, {func(p *api.Plan) { p.Places[3].Offset = 1 }, false}, {func(p *api.Plan) { p.Places[3].Offset = 4; p.Peak = 6 }, true}, {func(p *api.Plan) { p.Places[3].Offset = 4 }, false}, {func(p *api.Plan) { p.Places[4].Offset = 0 }, false}, {func(p *api.Plan) { p.Places[4].Offset = 1 }, false}, {func(p *api.Plan) { p.Places[2].Offset = 3 }, false}, {func(p *api.Plan) { p.Peak = 4 }, false}, {func(p *api.Plan) { p.Peak = 9 }, true}, {func(p *api.Plan) { p.Peak = -1 }, false}, {func(p *api.Plan) { p.Peak = plan.MaxArena }, true}, {func(p *api.Plan) { p.Peak = plan.MaxArena + 1 }, false}, {func(p *api.Plan) { p.Places[0].Offset = -1 }, false}, {func(p *api.Plan) { p.Places[5].Offset = 0 }, false}, {func(p *api.Plan) { p.Places[0].Size = 1 }, false}, {func(p *api.Plan) { p.Places[5].Size = 1 }, false}, {func(p *api.Plan) { p.Places = p.Places[1:] }, false}, {func(p *api.Plan) { p.InPlace = p.InPlace[1:] }, false}, {func(p *api.Plan) { p.InPlace = append(p.InPlace, 0) }, false}, {func(p *api.Plan) { p.Places[0].Offset = 1<<63 - 1 }, false},
	} {
		p := good()
		c.f(&p)
		if got := plan.Sound(k, p, dims); got != c.want {
			t.Errorf("%d: %v", i, got)
		}
		inputs := sample.Arrays("#[2: 5 6]", "#[2: 7 9]", "#[: 1]")
		results, _, e := plan.Run(k, p, dims, inputs)
		if (e == api.OK) != c.want || e != api.OK && (e != api.ErrPlan || results != nil) || e == api.OK && sample.Text(results) != "#[2: 15 12] #[2: 12 15] " {
			t.Errorf("%d: %s %d", i, sample.Text(results), e)
		}
	}
	// Words without elements are in no one's way.
	empty := api.Plan{Places: places(0, 0, 0, 0, 0, 1, 0, 0, 0, 0, -1, 0), InPlace: []int{0, 0}, Peak: 1}
	if !plan.Sound(k, empty, sample.Values("n=0")) || plan.Sound(k, empty, dims) || plan.Sound(k, empty, nil) || plan.Sound(api.Kernels{}, api.Plan{}, nil) {
		t.Error("Sound")
	}
	// All inputs are live ahead of the kernels.
	k = fused(sample.Program("n", []string{"int", "int"}, []int{2}, sample.Const("#[: 1]")))
	if plan.Sound(k, api.Plan{Places: places(0, 1, 0, 1, 0, 1), InPlace: []int{0}, Peak: 1}, sample.Values("n=0")) || !plan.Sound(k, api.Plan{Places: places(0, 1, 1, 1, 0, 1), InPlace: []int{0}, Peak: 2}, sample.Values("n=0")) {
		t.Error("Sound")
	}
}

func TestRun(t *testing.T) { // P47.1
	k := fused(sample.Program("n", []string{"[n]int", "[n]int", "int"}, []int{4, 4}, in("add v0@0 v1@0|n"), in("update v3 v2 v2", sample.Check(5))))
	inputs := sample.Arrays("#[2: 5 6]", "#[2: 7 8]", "#[: 2]")
	dims := sample.Values("n=2")
	p, _ := plan.Make(k, dims)
	results, violated, e := plan.Run(k, p, dims, inputs)
	if sample.Text(results) != "#[2: 12 14] #[2: 12 14] " || !slices.Equal(violated, []int{5}) || e != api.OK || inputs[0].Data[0] != 5 {
		t.Errorf("%s %v %d", sample.Text(results), violated, e)
	}
	if results[0].Data[0] = 9; results[1].Data[0] != 12 {
		t.Error("memory is shared")
	}
	with := func(f func(k *api.Kernels)) api.Kernels {
		k := clone.Kernels(k)
		f(&k)
		return k
	}
	for i, c := range []struct {
		k      api.Kernels
		p      api.Plan
		dims   string
		inputs []api.Array
		e      api.Errno
	}{
		{api.Kernels{}, api.Plan{}, "", nil, api.ErrCode}, {k, p, "", inputs, api.ErrArg}, {k, p, "n=4097", inputs, api.ErrArg}, {k, p, "n=2", inputs[1:], api.ErrArg}, {with(func(k *api.Kernels) { k.Where = []api.Linear{linear.Of(-1)} }), p, "n=2", inputs, api.ErrRange}, {k, p, "n=2", sample.Arrays("#b[3: 1 1 1]", "#b[2: 1 1]", "#[: 2]"), api.ErrType}, {k, p, "n=3", inputs, api.ErrShape}, {k, api.Plan{}, "n=2", inputs, api.ErrPlan},
		{with(func(k *api.Kernels) { k.List[0].Body.Kids[0].At = sample.Linears("i0+1") }), p, "n=2", inputs, api.ErrPlan},
		{with(func(k *api.Kernels) { k.List[0].Body.Kids[1].At = sample.Linears("i0+1") }), p, "n=2", inputs, api.ErrRange},
	} {
		if results, _, e := plan.Run(c.k, c.p, sample.Values(c.dims), c.inputs); e != c.e || results != nil {
			t.Errorf("%d: %d", i, e)
		}
	}
	long := fused(sample.Program("n", []string{"[n]int"}, []int{1}, in("append v0 v0")))
	if _, _, e := plan.Run(long, api.Plan{}, sample.Values("n=3000"), []api.Array{{Elem: api.Int, Dims: []int{3000}, Data: make([]int, 3000)}}); e != api.ErrLimit {
		t.Errorf("%d", e)
	}
}

// spread returns another sound plan, in which no value takes the place of another one but of the first one that it may.
func spread(k api.Kernels, sizes []int, d *sample.Dice) api.Plan {
	p := api.Plan{InPlace: make([]int, len(k.List))}
	spans, _ := lifetime.Spans(k)
	for v, n := range sizes {
		x := api.Place{Offset: -1}
		if spans[v].Last > -2 {
			x = api.Place{Offset: p.Peak, Size: n}
			p.Peak += n + d.N(2)
		}
		p.Places = append(p.Places, x)
	}
	for i, kernel := range k.List {
		for v := range k.Values {
			if d.N(2) == 0 && unique.May(k, i, v) {
				p.Places[kernel.Value] = p.Places[v]
			}
		}
	}
	return p
}

func TestRandom(t *testing.T) { // P47.3, P47.4, P47.5, P47.6
	d := sample.NewDice(14)
	ran := 0
	for range 1500 {
		k := fused(sample.Flat(d, 9))
		dims := sample.Dims(d, 4)
		inputs := sample.Inputs(d, k.Values[:k.Inputs], dims)
		p, e := plan.Make(k, dims)
		if e == api.ErrLimit {
			continue
		}
		if e != api.OK || !plan.Sound(k, p, dims) {
			t.Fatalf("%v %d", p, e)
		}
		sizes, _ := lifetime.Sizes(k, dims)
		needs, _ := lifetime.Needs(k, dims)
		sum, end := 0, 0
		for v, x := range p.Places {
			if v < k.Inputs && x.Size > 0 && x.Offset != sum {
				t.Fatalf("the input v%d is not behind the others", v)
			}
			sum += sizes[v]
			end = max(end, x.Offset+x.Size)
		}
		if p.Peak > sum || p.Peak != end {
			t.Fatalf("the peak %d", p.Peak)
		}
		for at, n := range needs {
			if at > 0 && at <= len(k.List) && p.InPlace[at-1] >= 0 {
				n -= sizes[k.List[at-1].Value]
			}
			if p.Peak < n {
				t.Fatalf("the peak %d is less than %d", p.Peak, n)
			}
		}
		arrays, checks, e := fuse.Run(k, dims, inputs)
		for _, p := range []api.Plan{p, spread(k, sizes, d)} {
			results, violated, g := plan.Run(k, p, dims, inputs)
			if e != g || !slices.Equal(violated, checks) {
				t.Fatalf("%d %v, not %d %v", g, violated, e, checks)
			}
			for i, a := range results {
				if !array.Equal(a, arrays[k.Results[i]]) {
					t.Fatalf("%v, not %v", a, arrays[k.Results[i]])
				}
			}
		}
		if e == api.OK {
			ran++
		}
	}
	if ran < 800 {
		t.Errorf("%d", ran)
	}
}
