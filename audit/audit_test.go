package audit_test

import (
	"slices"
	"testing"

	"framewise/api"
	"framewise/audit"
	"framewise/clone"
	"framewise/fuse"
	"framewise/lifetime"
	"framewise/plan"
	"framewise/poly"
	"framewise/sample"
	"framewise/unique"
)

var in = sample.Instr

func fused(f api.Flat) api.Kernels {
	k, e := fuse.Fuse(f)
	if e != api.OK {
		panic(e)
	}
	return k
}

func polynomial(s string) api.Poly {
	p, e := poly.Parse(s)
	if e != api.OK {
		panic(s)
	}
	return p
}

func text(l []api.Poly) string {
	s := ""
	for _, p := range l {
		s += poly.Print(p) + " "
	}
	return s
}

// simple has the only kernel v2 = add(v0, v1).
func simple() api.Kernels {
	return fused(sample.Program("n", []string{"[n]int", "[n]int"}, []int{2}, in("add v0@0 v1@0|n")))
}

func TestDemands(t *testing.T) { // P48.1
	lists := []string{"[n]int", "[n, m]int", "int"}
	for i, c := range []struct {
		k              api.Kernels
		demands, peaks string
	}{
		{simple(), "2*n 2*n n ", "2*n "},
		{fused(sample.Program("m n", lists, []int{1}, in("transpose v1"))), "1+m*n+n m*n ", "1+m*n+n "},
		{fused(sample.Program("m n", lists, []int{3}, in("transpose v1"))), "1+m*n+n 2*m*n m*n ", "1+m*n+n 2*m*n "},
		{fused(sample.Program("m n", lists, []int{3}, in("add v1@0.1 v2|n m"))), "1+m*n+n 1+m*n m*n ", "1+m*n+n "},
		{fused(sample.Program("m n", lists, []int{3, 4}, in("append v0 v0"), in("append v3 v0"))), "1+m*n+n 3*n 6*n 5*n ", "1+m*n+n 6*n "},
		{fused(sample.Program("n", []string{"[n]int"}, []int{0, 0})), "n n ", "n "},
		{fused(sample.Program("n", []string{"[n]int"}, []int{1, 2}, in("fill v0@0|n|2"), in("append v0 v0"))), "n 3*n 5*n 4*n ", "5*n "},
		{fused(sample.Program("", []string{"[0]int"}, []int{0})), "0 0 ", "0 "},
	} {
		demands, e := audit.Demands(c.k)
		peaks, f := audit.Peaks(c.k)
		if text(demands) != c.demands || text(peaks) != c.peaks || e != api.OK || f != api.OK {
			t.Errorf("%d: %s: %s %d %d", i, text(demands), text(peaks), e, f)
		}
	}
	huge := api.Kernels{Vars: []string{"a", "b", "c"}, Inputs: 2, Values: []api.Type{sample.Type("[a+b+c+1, a+b+c+1, a+b+c+1, a+b+c+1, a+b+c+1, a+b+c+1]int"), sample.Type("int")}, Results: []int{0}}
	if l, e := audit.Demands(huge); e != api.ErrLimit || l != nil {
		t.Errorf("%d", e)
	}
	if l, e := audit.Peaks(huge); e != api.ErrLimit || l != nil {
		t.Errorf("%d", e)
	}
	if n, e := audit.Least(huge, sample.Values("a=1 b=0 c=1")); n != 730 || e != api.OK {
		t.Errorf("%d %d", n, e)
	}
	if l, e := audit.Demands(api.Kernels{}); e != api.ErrCode || l != nil {
		t.Errorf("%d", e)
	}
	if l, e := audit.Peaks(api.Kernels{}); e != api.ErrCode || l != nil {
		t.Errorf("%d", e)
	}
}

func TestDominated(t *testing.T) { // P48.1
	for i, c := range []struct {
		p, q string
		want bool
	}{
		{"0", "0", true}, {"n", "n", true}, {"n", "1+n", true}, {"1+n", "n", false}, {"n", "2*n", true}, {"2*n", "n", false}, {"n", "m", false}, {"n", "n^2", false}, {"m*n", "m*n+n", true}, {"0", "n", true}, {"-1", "0", true}, {"0", "-1", false}, {"n", "-1+2*n", false}, {"-1+n", "2*n", true}, {"-n", "0", true}, {"n", "-m+2*n", false}, {"-2*m+n", "-m+n", true}, {"-m+n", "-2*m+n", false},
	} {
		if got := audit.Dominated(polynomial(c.p), polynomial(c.q)); got != c.want {
			t.Errorf("%d: %v", i, got)
		}
	}
	wrong := api.Poly{{Coef: 0}}
	if audit.Dominated(wrong, polynomial("1")) || audit.Dominated(polynomial("-1"), wrong) || audit.Dominated(wrong, wrong) {
		t.Error("polynomials that are not valid")
	}
}

func places(l ...int) []api.Place {
	var out []api.Place
	for i := 0; i < len(l); i += 2 {
		out = append(out, api.Place{Offset: l[i], Size: l[i+1]})
	}
	return out
}

func TestClashes(t *testing.T) { // P48.1
	dims := sample.Values("n=3")
	for i, c := range []struct {
		p          api.Plan
		want       []audit.Clash
		tops, free []int
	}{
		{api.Plan{Places: places(0, 3, 3, 3, 0, 3), InPlace: []int{0}, Peak: 6}, nil, []int{6, 6, 3}, []int{0, 0, 3}},
		{api.Plan{Places: places(0, 3, 3, 3, 3, 3), InPlace: []int{5}, Peak: 8}, nil, []int{6, 6, 6}, []int{2, 2, 5}},
		{api.Plan{Places: places(0, 3, 3, 3, 4, 3), InPlace: []int{0}, Peak: 7}, []audit.Clash{{0, 1, 2, 4}}, []int{6, 7, 7}, []int{1, 0, 4}},
		{api.Plan{Places: places(0, 3, 3, 3, 2, 3), InPlace: []int{0}, Peak: 6}, []audit.Clash{{0, 0, 2, 2}, {0, 1, 2, 3}}, []int{6, 6, 5}, []int{0, 0, 3}},
		{api.Plan{Places: places(1, 3, 1, 3, 1, 3), InPlace: []int{0}, Peak: 4}, []audit.Clash{{-1, 0, 1, 1}, {0, 0, 1, 1}}, []int{4, 4, 4}, []int{1, 1, 1}},
		{api.Plan{Places: places(2, 3, 1, 3, 9, 3), InPlace: []int{0}, Peak: 12}, []audit.Clash{{-1, 0, 1, 2}, {0, 0, 1, 2}}, []int{5, 12, 12}, []int{8, 5, 9}},
	} {
		got, e := audit.Clashes(simple(), c.p, dims)
		tops, f := audit.Tops(simple(), c.p, dims)
		free, g := audit.Free(simple(), c.p, dims)
		if !slices.Equal(got, c.want) || !slices.Equal(tops, c.tops) || !slices.Equal(free, c.free) || e != api.OK || f != api.OK || g != api.OK {
			t.Errorf("%d: %v %v %v %d %d %d", i, got, tops, free, e, f, g)
		}
	}
}

func TestErrors(t *testing.T) { // P48.1
	good := api.Plan{Places: places(0, 3, 3, 3, 0, 3), InPlace: []int{0}, Peak: 6}
	with := func(f func(p *api.Plan)) api.Plan {
		p := good
		p.Places, p.InPlace = slices.Clone(p.Places), slices.Clone(p.InPlace)
		f(&p)
		return p
	}
	bounded := simple()
	bounded.Where = sample.Linears("n-9")
	long := fused(sample.Program("n", []string{"[n]int"}, []int{1}, in("append v0 v0")))
	for i, c := range []struct {
		k    api.Kernels
		p    api.Plan
		dims string
		e    api.Errno
	}{
		{simple(), good, "n=3", api.OK}, {api.Kernels{}, good, "", api.ErrCode}, {simple(), good, "", api.ErrArg}, {simple(), api.Plan{}, "m=3", api.ErrArg}, {bounded, good, "n=3", api.ErrRange}, {long, good, "n=2049", api.ErrLimit}, {simple(), good, "n=4", api.ErrPlan}, {simple(), api.Plan{}, "n=3", api.ErrPlan},
		{simple(), with(func(p *api.Plan) { p.Peak = 5 }), "n=3", api.ErrPlan}, {simple(), with(func(p *api.Plan) { p.Peak = -1 }), "n=3", api.ErrPlan}, {simple(), with(func(p *api.Plan) { p.Peak = plan.MaxArena + 1 }), "n=3", api.ErrPlan}, {simple(), with(func(p *api.Plan) { p.Peak = plan.MaxArena }), "n=3", api.OK}, {simple(), with(func(p *api.Plan) { p.Places[1].Offset = -1 }), "n=3", api.ErrPlan}, {simple(), with(func(p *api.Plan) { p.Places[1].Size = 2 }), "n=3", api.ErrPlan}, {simple(), with(func(p *api.Plan) { p.Places = p.Places[:2] }), "n=3", api.ErrPlan}, {simple(), with(func(p *api.Plan) { p.InPlace = nil }), "n=3", api.ErrPlan}, {simple(), with(func(p *api.Plan) { p.InPlace = []int{77} }), "n=3", api.OK},
	} {
		dims := sample.Values(c.dims)
		_, e := audit.Clashes(c.k, c.p, dims)
		_, f := audit.Tops(c.k, c.p, dims)
		_, g := audit.Free(c.k, c.p, dims)
		if e != c.e || f != c.e || g != c.e {
			t.Errorf("%d: %d %d %d", i, e, f, g)
		}
		if n, e := audit.Least(c.k, dims); c.e != api.ErrPlan && e != c.e || e != api.OK && n != 0 {
			t.Errorf("%d: %d", i, e)
		}
	}
}

// shaken returns a well-formed plan: that of layer 47, or one some of whose places are elsewhere.
func shaken(d *sample.Dice, p api.Plan) api.Plan {
	p.Places = slices.Clone(p.Places)
	for v, x := range p.Places {
		if x.Offset >= 0 && d.N(3) == 0 {
			p.Places[v].Offset = max(0, min(x.Offset+d.N(5)-2, p.Peak-x.Size))
		}
	}
	return p
}

func TestRandom(t *testing.T) { // P48.2, P48.3, P48.4, P48.5, P48.6
	d := sample.NewDice(15)
	sound := map[bool]int{}
	for range 1200 {
		k := fused(sample.Flat(d, 9))
		dims := sample.Dims(d, 4)
		p, e := plan.Make(k, dims)
		if e == api.ErrLimit {
			continue
		}
		sizes, _ := lifetime.Sizes(k, dims)
		needs, _ := lifetime.Needs(k, dims)
		choices, _ := unique.Choices(k)
		demands, e := audit.Demands(k)
		peaks, f := audit.Peaks(k)
		least, g := audit.Least(k, dims)
		if e != api.OK || f != api.OK || g != api.OK {
			t.Fatalf("%d %d %d", e, f, g)
		}
		want := slices.Clone(needs)
		for i, c := range choices {
			if c >= 0 {
				want[i+1] -= sizes[k.List[i].Value]
			}
		}
		for i, q := range demands {
			if n, e := poly.Eval(q, dims); n != want[i] || e != api.OK {
				t.Fatalf("%s is %d, not %d", poly.Print(q), n, want[i])
			}
		}
		top := 0
		for _, q := range peaks {
			n, _ := poly.Eval(q, dims)
			top = max(top, n)
		}
		if least != top || least != slices.Max(want) {
			t.Fatalf("%d %d %v", least, top, want)
		}
		if tops, _ := audit.Tops(k, p, dims); slices.Max(tops) != p.Peak {
			t.Fatalf("%v %d", tops, p.Peak)
		}
		for _, p := range []api.Plan{p, shaken(d, p)} {
			check(t, k, p, dims, want, needs, sound)
		}
	}
	if sound[true] < 500 || sound[false] < 200 {
		t.Errorf("%v", sound)
	}
}

// check checks a well-formed plan.
func check(t *testing.T, k api.Kernels, p api.Plan, dims []api.Value, demands, needs []int, sound map[bool]int) {
	t.Helper()
	clashes, e := audit.Clashes(k, p, dims)
	isSound := plan.Sound(k, p, dims)
	sound[isSound]++
	if e != api.OK || isSound != (len(clashes) == 0) {
		t.Fatalf("%v %d %v", clashes, e, isSound)
	}
	moved := p
	moved.Peak += 7
	moved.Places = clone.Each(p.Places, func(x api.Place) api.Place {
		if x.Offset >= 0 {
			x.Offset += 7
		}
		return x
	})
	again, e := audit.Clashes(k, moved, dims)
	if e != api.OK || len(again) != len(clashes) {
		t.Fatalf("%v %d", again, e)
	}
	for i, c := range again {
		c.Word -= 7
		if c != clashes[i] {
			t.Fatalf("%v, not %v", c, clashes[i])
		}
	}
	tops, _ := audit.Tops(k, p, dims)
	free, e := audit.Free(k, p, dims)
	least, _ := audit.Least(k, dims)
	if e != api.OK || isSound && p.Peak < least {
		t.Fatalf("the peak %d is less than %d", p.Peak, least)
	}
	for i, n := range tops {
		used := p.Peak - free[i]
		if p.Peak < n || isSound && (used < demands[i] || used > needs[i]) {
			t.Fatalf("%d of %d words: %d to %d", used, p.Peak, demands[i], needs[i])
		}
	}
}
