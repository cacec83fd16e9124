package cost_test

import (
	"fmt"
	"slices"
	"testing"

	"framewise/api"
	"framewise/array"
	"framewise/clone"
	"framewise/compile"
	"framewise/cost"
	"framewise/fuse"
	"framewise/linear"
	"framewise/machine"
	"framewise/nest"
	"framewise/plan"
	"framewise/poly"
	"framewise/pull"
	"framewise/sample"
)

var (
	in     = sample.Instr
	one    = sample.Number(1)
	values = sample.Values
	reduce = sample.Reduce
)

func fused(f api.Flat) api.Kernels {
	k, e := fuse.Fuse(f)
	if e != api.OK {
		panic(e)
	}
	return k
}

// steps returns scalar code of so many operations.
func steps(n int) []api.Step {
	l := []api.Step{{Op: "const", Num: 3}, {Op: "truth"}}
	for range n {
		l = append(l, api.Step{Op: "add", Args: []int{0, 0}})
	}
	return l
}

// nested returns a reduce with so many operations each time.
func nested(at string, ops int, each api.Pull) api.Pull {
	return api.Pull{Op: "reduce", Name: "j", At: sample.Linears(at), Fun: steps(ops), Kids: []api.Pull{one, each}}
}

func TestPull(t *testing.T) { // P56.1
	read := sample.Read(999, "n")
	for i, c := range []struct {
		p          api.Pull
		env        string
		reads, ops int
	}{
		{one, "", 0, 0}, {sample.Value("n"), "n=3", 0, 0}, {read, "n=3", 1, 0}, {sample.Dynamic(0, "n", 3, sample.Op("neg", read)), "n=-8", 2, 1}, {sample.Op("select", one, read, sample.Op("add", read, read)), "n=3", 3, 2}, {sample.If("n-3", read, sample.Op("neg", one)), "n=3", 1, 0}, {sample.If("n-3", read, sample.Op("neg", one)), "n=2", 0, 1},
		{reduce("j0", "n-1", "add", sample.Op("neg", one), read), "n=5", 4, 5}, {reduce("j0", "n-1", "add", sample.Op("neg", one), read), "n=1", 0, 1}, {reduce("j0", "n-1", "add", read, read), "n=-7", 1, 0}, {reduce("j0", "n", "add", one, reduce("j1", "j0", "max", read, sample.If("j0-2", read, one))), "n=4", 9, 10}, {nested("n", 3, sample.Read(0, "j")), "n=4", 4, 12}, {api.Pull{Op: "code", Fun: steps(4), Kids: []api.Pull{read, read}}, "n=1", 2, 4},
		// What is not evaluated does not matter.
		{sample.If("n", one, sample.If("m", one, one)), "m=1000000001 n=0", 0, 0}, {reduce("j", "n", "add", one, sample.If("m", one, one)), "m=1000000001 n=0", 0, 0}, {sample.Read(0, "m"), "m=1000000001", 1, 0}, {sample.If("n", one, read), "n=1000000000", 0, 0}, {sample.If("n", read, one), "n=-1000000000", 0, 0},
		{nested("n", 58, one), "n=17241", 0, 999978}, {nested("n", 0, one), "n=199998", 0, 0},
	} {
		got, e := cost.Pull(c.p, values(c.env))
		if want := (api.Counts{Reads: c.reads, Ops: c.ops}); got != want || e != api.OK {
			t.Errorf("%d: %v %d", i, got, e)
		}
	}
}

func TestPullErrors(t *testing.T) { // P56.1
	reads := sample.Read(0, "")
	for range 7 {
		reads = sample.Op("add", reads, reads)
	}
	inner := func(at string) api.Pull {
		return api.Pull{Op: "reduce", Name: "k", At: sample.Linears(at), Kids: []api.Pull{one, one}}
	}
	for i, c := range []struct {
		p   api.Pull
		env string
		e   api.Errno
	}{
		{one, "n=1 n=1", api.ErrArg}, {sample.Value("n"), "m=1", api.ErrArg}, {sample.Read(1000, ""), "", api.ErrArg}, {api.Pull{}, "", api.ErrArg}, {reduce("n", "n", "add", one, one), "n=1", api.ErrArg}, {sample.If("n", one, one), "n=1000000001", api.ErrRange}, {sample.If("m+n", one, one), "m=1 n=-1000000001", api.ErrRange}, {reduce("j", "n", "add", one, one), "n=1000000001", api.ErrRange}, {sample.Op("add", one, reduce("j", "3", "add", one, sample.If("j+n", one, one))), "n=1000000001", api.ErrRange},
		{nested("n", 58, one), "n=17242", api.ErrLimit}, {nested("n", 0, one), "n=199999", api.ErrLimit}, {nested("n", 0, one), "n=1000000000", api.ErrLimit}, {nested("1000000n", 1, one), "n=1000000000", api.ErrLimit}, {nested("n", 0, sample.If("j", one, one)), "n=1000000000", api.ErrLimit}, {nested("n", 0, sample.If("j", one, one)), "n=99999", api.OK}, {nested("n", 0, sample.If("j", one, one)), "n=100000", api.ErrLimit}, {nested("447", 0, inner("j")), "", api.OK}, {nested("n", 0, inner("j")), "n=630", api.OK}, {nested("n", 0, inner("j")), "n=631", api.ErrLimit}, {nested("n", 0, inner("m")), "m=1000 n=199", api.OK}, {nested("n", 0, inner("m")), "m=1000 n=200", api.ErrLimit},
		{nested("n", 0, reads), "n=784", api.OK}, {nested("n", 0, reads), "n=785", api.ErrLimit},
	} {
		if got, e := cost.Pull(c.p, values(c.env)); e != c.e || e != api.OK && got != (api.Counts{}) {
			t.Errorf("%d: %v %d", i, got, e)
		}
	}
}

func TestNest(t *testing.T) { // P56.1
	n := api.Nest{Loops: []api.Loop{sample.Loop("x", "0", "n"), sample.Loop("y", "x", "n")}, Write: api.Access{Value: 1, At: sample.Linears("x")}}
	n.Body = sample.Op("add", reduce("j", "y", "add", one, sample.Read(0, "j")), one)
	for i, c := range []struct {
		env  string
		want api.Counts
	}{
		{"n=0", api.Counts{}}, {"n=-3", api.Counts{}}, {"n=1", api.Counts{Writes: 1, Ops: 1}}, {"n=3", api.Counts{Reads: 8, Writes: 6, Ops: 14}}, {"m=1000000001 n=1", api.Counts{Writes: 1, Ops: 1}},
	} {
		if got, e := cost.Nest(n, values(c.env)); got != c.want || e != api.OK {
			t.Errorf("%d: %v %d", i, got, e)
		}
	}
	dynamic := n
	dynamic.Write.Dynamic, dynamic.Index = true, sample.If("y-x-1", sample.Read(0, "y"), one)
	if got, e := cost.Nest(dynamic, values("n=3")); got != (api.Counts{Reads: 11, Writes: 6, Ops: 14}) || e != api.OK {
		t.Errorf("%v %d", got, e)
	}
	// The counts of all points may be greater than those of one.
	n.Body = nested("1000", 50, one)
	if got, e := cost.Nest(n, values("n=100")); got != (api.Counts{Writes: 5050, Ops: 5050 * 50000}) || e != api.OK {
		t.Errorf("%v %d", got, e)
	}
	n.Body = nested("x", 0, sample.If("m", one, one))
	for i, c := range []struct {
		env string
		e   api.Errno
	}{
		{"n=1 n=1", api.ErrArg}, {"m=1", api.ErrArg}, {"m=1000000001 n=1", api.OK}, {"m=1000000001 n=2", api.ErrRange}, {"m=1 n=1000000001", api.ErrRange}, {"m=1 n=300", api.ErrLimit}, {"m=1 n=199", api.OK},
	} {
		if got, e := cost.Nest(n, values(c.env)); e != c.e || e != api.OK && got != (api.Counts{}) {
			t.Errorf("%d: %v %d", i, got, e)
		}
	}
	dynamic.Index, dynamic.Body = sample.If("m", one, one), nested("1000000", 0, one)
	if _, e := cost.Nest(dynamic, values("m=1000000001 n=2")); e != api.ErrRange {
		t.Errorf("%d", e)
	}
}

func TestOf(t *testing.T) { // P56.1
	k := fused(sample.Program("n", []string{"[n]int"}, []int{1}, in("neg v0@0|n")))
	p := api.Plan{Places: []api.Place{{Offset: 0, Size: 3}, {Offset: 3, Size: 3}}, InPlace: []int{-1}, Peak: 9}
	got, e := cost.Of(k, p, values("n=3"))
	if got != (api.Counts{Reads: 3, Writes: 3, Ops: 3, Peak: 6}) || e != api.OK {
		t.Errorf("%v %d", got, e)
	}
	reads, writes, ops, e := cost.Formula(k, 0)
	if text := poly.Print(reads) + " " + poly.Print(writes) + " " + poly.Print(ops); text != "n n n" || e != api.OK {
		t.Errorf("%s %d", text, e)
	}
	// The place of an empty input counts, but not that of an empty value.
	p = api.Plan{Places: []api.Place{{Offset: 4}, {Offset: 7}}, InPlace: []int{-1}, Peak: 9}
	if got, e := cost.Of(k, p, values("n=0")); got != (api.Counts{Peak: 4}) || e != api.OK {
		t.Errorf("%v %d", got, e)
	}
	small := p
	small.Peak = 6
	long := api.Kernels{Vars: []string{"n"}, Values: []api.Type{sample.Type("[n, n, 0]int")}, List: []api.Kernel{{Kind: api.KernelMap, Space: sample.Linears("n n 0"), Body: one}}, Results: []int{0}}
	many := api.Kernels{Values: []api.Type{sample.Type("int")}, List: []api.Kernel{{Kind: api.KernelMap, Body: nested("1000000", 0, one)}}, Results: []int{0}}
	for i, c := range []struct {
		k    api.Kernels
		p    api.Plan
		dims string
		e    api.Errno
	}{
		{api.Kernels{}, p, "", api.ErrCode}, {k, p, "m=0", api.ErrArg}, {k, p, "n=4097", api.ErrArg}, {k, small, "n=0", api.ErrPlan}, {k, p, "n=1", api.ErrPlan}, {k, api.Plan{}, "n=0", api.ErrPlan}, {fused(sample.Program("n", []string{"[n]int"}, []int{1}, in("append v0 v0"))), p, "n=3000", api.ErrLimit},
		{long, api.Plan{Places: make([]api.Place, 1), InPlace: []int{-1}}, "n=40", api.OK}, {long, api.Plan{Places: make([]api.Place, 1), InPlace: []int{-1}}, "n=4096", api.ErrLimit}, {many, api.Plan{Places: []api.Place{{Size: 1}}, InPlace: []int{-1}, Peak: 1}, "", api.ErrLimit},
	} {
		if got, e := cost.Of(c.k, c.p, values(c.dims)); e != c.e || e != api.OK && got != (api.Counts{}) {
			t.Errorf("%d: %v %d", i, got, e)
		}
	}
	k.Where = sample.Linears("n-4")
	if _, e := cost.Of(k, small, values("n=3")); e != api.ErrRange {
		t.Errorf("%d", e)
	}
}

func TestUpdate(t *testing.T) { // P56.1, P56.6
	k := fused(sample.Program("m n", []string{"[m, n]int", "[m]int", "int"}, []int{3}, in("update v0@0 v1@0 v2|m")))
	dims := values("m=2 n=5")
	inPlace, _ := plan.Make(k, dims)
	apart := api.Plan{Places: []api.Place{{Offset: 0, Size: 10}, {Offset: 10, Size: 2}, {Offset: 12, Size: 1}, {Offset: 20, Size: 10}}, InPlace: []int{0}, Peak: 30}
	for _, c := range []struct {
		p    api.Plan
		want api.Counts
	}{{inPlace, api.Counts{Reads: 4, Writes: 2, Peak: 13}}, {apart, api.Counts{Reads: 14, Writes: 12, Peak: 30}}} {
		if got, e := cost.Of(k, c.p, dims); got != c.want || e != api.OK {
			t.Errorf("%v %d", got, e)
		}
	}
	reads, writes, ops, e := cost.Formula(k, 0)
	if text := poly.Print(reads) + " " + poly.Print(writes) + " " + poly.Print(ops); text != "2*m+m*n m+m*n 0" || e != api.OK {
		t.Errorf("%s %d", text, e)
	}
}

func TestFormula(t *testing.T) { // P56.1
	single := func(t string, body api.Pull) api.Kernels {
		k := api.Kernels{Vars: []string{"m", "n"}, Inputs: 2, Results: []int{2}}
		for _, s := range []string{"[n]int", "int", t} {
			k.Values = append(k.Values, sample.Type(s))
		}
		k.List = []api.Kernel{{Kind: api.KernelMap, Value: 2, Space: k.Values[2].Shape.Dims, Body: body}}
		return k
	}
	read := sample.Read(0, "0")
	deep := read
	for k := range 9 {
		deep = api.Pull{Op: "reduce", Name: fmt.Sprint("j", k), At: sample.Linears("n"), Kids: []api.Pull{one, deep}}
	}
	scan := single("[n]int", read)
	scan.List[0].Kind, scan.List[0].Fun = api.KernelScan, sample.Prim("add")
	for i, c := range []struct {
		k    api.Kernels
		at   int
		want string
		e    api.Errno
	}{
		{single("[m, n]int", sample.Op("add", read, sample.Value("i0"))), 0, "m*n, m*n, m*n", api.OK}, {single("int", one), 0, "0, 1, 0", api.OK}, {single("[n-1]int", reduce("j0", "m-2", "add", sample.Op("neg", read), sample.Dynamic(0, "", 1, sample.Read(0, "j0")))), 0, "3-2*m+2*m*n-3*n, -1+n, 1-m+m*n-n", api.OK}, {single("[3]int", reduce("j0", "n", "add", one, reduce("j1", "m", "add", one, sample.Read(1, "")))), 0, "3*m*n, 3, 3*m*n+3*n", api.OK}, {single("[n]int", api.Pull{Op: "code", Fun: steps(5), Kids: []api.Pull{read, read}}), 0, "2*n, n, 5*n", api.OK},
		{api.Kernels{}, 0, "", api.ErrCode}, {single("int", one), -1, "", api.ErrRange}, {single("int", one), 1, "", api.ErrRange}, {scan, 0, "", api.ErrNone}, {single("int", sample.Op("neg", sample.If("n", one, one))), 0, "", api.ErrNone}, {single("[n]int", reduce("j0", "i0", "add", one, one)), 0, "", api.ErrNone}, {single("int", reduce("j0", "n", "add", one, reduce("j1", "j0+1", "add", one, one))), 0, "", api.ErrNone}, {single("int", reduce("j0", "n", "add", reduce("j0", "n", "add", one, one), one)), 0, "0, 1, 2*n", api.OK}, {single("int", reduce("i7", "n", "add", one, one)), 0, "0, 1, n", api.OK}, {single("int", deep), 0, "", api.ErrLimit}, {single("[n]int", deep.Kids[1]), 0, "", api.ErrLimit}, {single("int", deep.Kids[1]), 0, "n^8, 1, 0", api.OK},
		{single("[n]int", sample.Op("neg", sample.Op("add", sample.If("n", one, one), deep))), 0, "", api.ErrNone},
	} {
		reads, writes, ops, e := cost.Formula(c.k, c.at)
		text := ""
		if e == api.OK {
			text = poly.Print(reads) + ", " + poly.Print(writes) + ", " + poly.Print(ops)
		}
		if text != c.want || e != c.e || e != api.OK && (reads != nil || writes != nil || ops != nil) {
			t.Errorf("%d: %s %d", i, text, e)
		}
	}
	update := fused(sample.Program("n", []string{"[n]int", "int"}, []int{2}, in("update v0 v1 v1")))
	update.List[0].Index = sample.If("n", one, one)
	if _, _, _, e := cost.Formula(update, 0); e != api.ErrNone {
		t.Errorf("%d", e)
	}
}

// isMild reports whether an error of this layer is one that a run without errors permits.
func isMild(e api.Errno) bool { return e == api.ErrLimit || e == api.ErrRange }

func TestEvaluation(t *testing.T) { // P56.2
	d := sample.NewDice(29)
	compared := 0
	for range 3000 {
		k := sample.Kernels(d, 1)
		dims := sample.Dims(d, 5)
		inputs := sample.Inputs(d, k.Values[:k.Inputs], dims)
		kernel := k.List[len(k.List)-1]
		env := slices.Clone(dims)
		for j := range kernel.Space {
			env = append(env, api.Value{Var: pull.Loop(j), N: d.N(4)})
		}
		_, want, _, e := pull.Eval(kernel.Body, env, inputs)
		got, f := cost.Pull(kernel.Body, env)
		if e != api.OK {
			continue
		}
		compared++
		if f != api.OK && !isMild(f) || f == api.OK && got != want {
			t.Fatalf("%v: %v %d, not %v", kernel.Body, got, f, want)
		}
	}
	if compared < 800 {
		t.Errorf("%d", compared)
	}
}

func TestNests(t *testing.T) { // P56.3
	d := sample.NewDice(30)
	compared := 0
	for range 3000 {
		n := sample.Nest(d, 1+d.N(3))
		if d.N(3) == 0 {
			n.Body = sample.If("x-2", n.Body, reduce("k", "x+n", "add", one, n.Body))
		}
		env := []api.Value{{Var: "n", N: d.N(5)}}
		_, want, _, e := nest.Run(n, env, sample.Squares(d))
		got, f := cost.Nest(n, env)
		if e != api.OK {
			continue
		}
		compared++
		if got != want || f != api.OK {
			t.Fatalf("%v: %v %d, not %v", n, got, f, want)
		}
	}
	if compared < 800 {
		t.Errorf("%d", compared)
	}
}

func TestPrograms(t *testing.T) { // P56.4, P56.6
	d := sample.NewDice(31)
	ran := 0
	for i := range 2500 {
		k := sample.Kernels(d, 3)
		if i%2 == 0 {
			k = fused(sample.Flat(d, 8))
		}
		dims := sample.Dims(d, 4)
		p, e := plan.Make(k, dims)
		if e != api.OK {
			continue
		}
		q := sample.Apart(d, k, dims)
		near, e := cost.Of(k, p, dims)
		far, f := cost.Of(k, q, dims)
		if e != f || near.Reads > far.Reads || near.Writes > far.Writes || near.Ops != far.Ops || far.Reads-near.Reads != far.Writes-near.Writes {
			t.Fatalf("%v %d, %v %d", near, e, far, f)
		}
		inputs := sample.Inputs(d, k.Values[:k.Inputs], dims)
		arrays, violated, f := fuse.Run(k, dims, inputs)
		if e != api.OK || f != api.OK {
			continue
		}
		for _, p := range []api.Plan{p, q, sample.Mixed(d, k, p, dims)} {
			want, _ := cost.Of(k, p, dims)
			b, e := compile.Make(k, p, dims)
			if e != api.OK {
				continue
			}
			out, e := machine.Run(b, inputs)
			if e == api.ErrLimit {
				continue
			}
			ran++
			if e != api.OK || out.Counts != want || !slices.Equal(out.Violated, violated) {
				t.Fatalf("%v %d, not %v", out, e, want)
			}
			for i, r := range k.Results {
				if !array.Equal(out.Results[i], arrays[r]) {
					t.Fatalf("%v, not %v", out.Results[i], arrays[r])
				}
			}
		}
	}
	if ran < 1000 {
		t.Errorf("%d", ran)
	}
}

// least returns the least value of the expressions that have to be at least 0 for a formula.
func least(k api.Kernels, kernel api.Kernel, dims []api.Value) int {
	all := slices.Concat(kernel.Space, k.Values[kernel.Value].Shape.Dims)
	for _, p := range []api.Pull{kernel.Body, kernel.Index} {
		pull.Visit(p, func(q api.Pull) {
			if q.Op == "reduce" {
				all = append(all, q.At...)
			}
		})
	}
	least := 0
	for _, l := range all {
		n, _ := linear.Eval(l, dims)
		least = min(least, n)
	}
	return least
}

func TestFormulas(t *testing.T) { // P56.5
	d := sample.NewDice(32)
	compared := 0
	for i := range 1500 {
		k := sample.Kernels(d, 3)
		if i%2 == 0 {
			k = fused(sample.Flat(d, 8))
		}
		for at, kernel := range k.List {
			reads, writes, ops, e := cost.Formula(k, at)
			dims := sample.Dims(d, 5)
			if e != api.OK || least(k, kernel, dims) < 0 {
				continue
			}
			nests, e := nest.Of(k, at, false)
			if e != api.OK {
				t.Fatalf("%d", e)
			}
			var sum api.Counts
			for _, n := range nests {
				c, f := cost.Nest(n, dims)
				sum = api.Counts{Reads: sum.Reads + c.Reads, Writes: sum.Writes + c.Writes, Ops: sum.Ops + c.Ops}
				e = max(e, f)
			}
			if e != api.OK {
				continue
			}
			compared++
			for _, x := range []struct {
				p api.Poly
				n int
			}{{reads, sum.Reads}, {writes, sum.Writes}, {ops, sum.Ops}} {
				if n, e := poly.Eval(x.p, dims); n != x.n || e != api.OK {
					t.Fatalf("%v: %s for %v, not %v", kernel, poly.Print(x.p), dims, sum)
				}
			}
		}
	}
	if compared < 800 {
		t.Errorf("%d", compared)
	}
}

func TestArguments(t *testing.T) { // arguments are not changed, and results share no memory
	p := reduce("j", "n", "add", one, sample.If("j-n", one, one))
	before := clone.Pull(p)
	env := make([]api.Value, 1, 8)
	env[0] = api.Value{Var: "n", N: 3}
	if _, e := cost.Pull(p, env); e != api.OK || !pull.Equal(p, before) || len(env[:2][1].Var) > 0 {
		t.Errorf("%v", env[:2])
	}
}
