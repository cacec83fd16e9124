package compile_test

import (
	"fmt"
	"maps"
	"slices"
	"testing"

	"framewise/api"
	"framewise/bytecode"
	"framewise/clone"
	"framewise/compile"
	"framewise/fuse"
	"framewise/nest"
	"framewise/plan"
	"framewise/sample"
	"framewise/verify"
)

var in = sample.Instr

func fused(f api.Flat) api.Kernels {
	k, e := fuse.Fuse(f)
	if e != api.OK {
		panic(e)
	}
	return k
}

// single has the inputs [n]int, [n]bool and int, and one kernel, which computes a value of a type.
func single(t string, body api.Pull) api.Kernels {
	k := api.Kernels{Vars: []string{"n"}, Inputs: 3, Results: []int{3}}
	for _, s := range []string{"[n]int", "[n]bool", "int", t} {
		k.Values = append(k.Values, sample.Type(s))
	}
	k.List = []api.Kernel{{Kind: api.KernelMap, Value: 3, Space: k.Values[3].Shape.Dims, Body: body}}
	return k
}

// arena returns the words at the beginning of a run: what is in no input is anything.
func arena(b api.Bytecode, inputs []api.Array) []int {
	words := slices.Repeat([]int{-77}, b.Arena)
	for i, p := range b.Inputs {
		copy(words[p.Offset:], inputs[i].Data)
	}
	return words
}

// counts returns what the nests of all kernels count in a run.
func counts(t *testing.T, k api.Kernels, p api.Plan, dims []api.Value, arrays []api.Array) api.Counts {
	t.Helper()
	var sum api.Counts
	work := clone.Each(arrays, clone.Array)
	for i, x := range k.List {
		isInPlace := x.Kind != api.KernelUpdate || p.Places[x.Value].Offset == p.Places[x.Source].Offset
		if x.Kind == api.KernelUpdate && isInPlace && x.Source != x.Value {
			work[x.Value] = clone.Array(work[x.Source])
		}
		l, e := nest.Of(k, i, isInPlace)
		if e != api.OK {
			t.Fatalf("%d", e)
		}
		for _, n := range l {
			out, c, _, e := nest.Run(n, dims, work)
			if e != api.OK {
				t.Fatalf("%d", e)
			}
			work = out
			sum.Reads, sum.Writes, sum.Ops = sum.Reads+c.Reads, sum.Writes+c.Writes, sum.Ops+c.Ops
		}
	}
	return sum
}

// check compares the program of a fused program with a run, and reports whether there is one without errors.
func check(t *testing.T, k api.Kernels, p api.Plan, dims []api.Value, inputs []api.Array) bool {
	t.Helper()
	b, e := compile.Make(k, p, dims)
	if e != api.OK || !bytecode.Valid(b) {
		t.Fatalf("%d: %v", e, k.List)
	}
	text, _ := bytecode.Print(b.Ops)
	if at, e := verify.Verify(b); e != api.OK {
		t.Fatalf("%s: %d can fail", text, at)
	}
	arrays, violated, e := fuse.Run(k, dims, inputs)
	if e != api.OK {
		return false
	}
	m := sample.NewMachine(b, arena(b, inputs))
	m.Most = 1 << 23
	if !m.Run() {
		t.Fatalf("%s fails", text)
	}
	if got := slices.Sorted(maps.Keys(m.Violated)); !slices.Equal(got, violated) {
		t.Fatalf("%s: %v, not %v", text, got, violated)
	}
	if want := counts(t, k, p, dims, arrays); m.Counts != want {
		t.Fatalf("%s: %v, not %v", text, m.Counts, want)
	}
	for i, r := range k.Results {
		x := b.Results[i]
		got := slices.Clone(m.Arena[x.Offset : x.Offset+x.Size])
		if x != p.Places[r] || b.Types[k.Inputs+i].Elem != arrays[r].Elem || !slices.Equal(b.Types[k.Inputs+i].Dims, arrays[r].Dims) || !slices.Equal(got, arrays[r].Data) {
			t.Fatalf("%s: %v, not %v", text, got, arrays[r])
		}
	}
	return true
}

func TestMake(t *testing.T) { // P54.1, P54.3, P54.4
	k := fused(sample.Program("n", []string{"[n]int"}, []int{1}, in("neg v0@0|n")))
	dims := sample.Values("n=3")
	p := api.Plan{Places: []api.Place{{Offset: 0, Size: 3}, {Offset: 3, Size: 3}}, InPlace: []int{-1}, Peak: 6}
	b, e := compile.Make(k, p, dims)
	m := sample.NewMachine(b, arena(b, sample.Arrays("#[3: 5 6 7]")))
	if !m.Run() || !slices.Equal(m.Arena[3:], []int{-5, -6, -7}) || m.Counts != (api.Counts{Reads: 3, Writes: 3, Ops: 3}) || e != api.OK {
		t.Errorf("%v %v %d", m.Arena, m.Counts, e)
	}
	if b.Arena != 6 || !slices.Equal(b.Inputs, p.Places[:1]) || !slices.Equal(b.Results, p.Places[1:]) || fmt.Sprint(b.Types) != "[{int [3] []} {int [3] []}]" {
		t.Errorf("%v", b)
	}
	other := p
	other.Peak = 5
	for i, c := range []struct {
		k    api.Kernels
		p    api.Plan
		dims string
		e    api.Errno
	}{
		{api.Kernels{}, p, "", api.ErrCode}, {k, p, "", api.ErrArg}, {k, p, "m=3", api.ErrArg}, {k, p, "n=4097", api.ErrArg}, {k, other, "n=3", api.ErrPlan}, {k, p, "n=2", api.ErrPlan}, {k, api.Plan{}, "n=3", api.ErrPlan}, {fused(sample.Program("n", []string{"[n]int"}, []int{1}, in("append v0 v0"))), p, "n=3000", api.ErrLimit},
	} {
		if b, e := compile.Make(c.k, c.p, sample.Values(c.dims)); e != c.e || b.Ops != nil || b.Types != nil {
			t.Errorf("%d: %d", i, e)
		}
	}
	k.Where = sample.Linears("n-4")
	if _, e := compile.Make(k, other, dims); e != api.ErrRange {
		t.Errorf("%d", e)
	}
	checked := fused(sample.Program("n", []string{"[n]int", "int"}, []int{2}, in("index v0 v1", sample.Check(1000001))))
	if p, _ := plan.Make(checked, dims); p.Peak > 0 {
		if _, e := compile.Make(checked, p, dims); e != api.ErrLimit {
			t.Errorf("%d", e)
		}
		checked.List[0].Body.Check = 1000000
		if _, e := compile.Make(checked, p, dims); e != api.OK {
			t.Errorf("%d", e)
		}
	}
}

func TestWeight(t *testing.T) { // P54.1
	k := single("[n]int", sample.Op("add", sample.Read(0, "i0"), api.Pull{Op: "code", Fun: sample.Prim("neg"), Kids: []api.Pull{sample.Number(1)}}))
	// 5, the space 2, the body 1 and 1 + 2 and 1 + 1 + 1, the index 1.
	if n := compile.Weight(k); n != 5+2+1+3+3+1 {
		t.Errorf("%d", n)
	}
	k.List = append(k.List, k.List[0])
	k.List[1].Fun = sample.Prim("add")
	if n := compile.Weight(k); n != 15+16 {
		t.Errorf("%d", n)
	}
	if n := compile.Weight(api.Kernels{}); n != 0 {
		t.Errorf("%d", n)
	}
	k.List = []api.Kernel{{Kind: 77, Value: -4, Space: sample.Linears("a+b+c")}}
	if n := compile.Weight(k); n != 5+4+1+1 {
		t.Errorf("%d", n)
	}
}

// count returns a reduce that adds up a pull so often.
func count(name, at string, first, p api.Pull) api.Pull {
	return api.Pull{Op: "reduce", Name: name, At: sample.Linears(at), Fun: sample.Prim("add"), Kids: []api.Pull{first, p}}
}

func lin(s string) api.Pull { return api.Pull{Op: "linear", At: sample.Linears(s)} }

func TestPulls(t *testing.T) { // P54.2, P54.3, P54.4
	zero, one := sample.Number(0), sample.Number(1)
	when := func(at string, a, b api.Pull) api.Pull {
		return api.Pull{Op: "if", At: sample.Linears(at), Kids: []api.Pull{a, b}}
	}
	dynamic := func(v, check int, kid api.Pull) api.Pull {
		return api.Pull{Op: "read", Value: v, Dynamic: true, Check: check, Kids: []api.Pull{kid}}
	}
	deep := zero
	for range 11 {
		deep = sample.Op("select", sample.Op("lt", deep, one), sample.Op("sub", one, deep), zero).Kids[1]
	}
	loops := lin("j0+1000000j5-999999j10")
	for k := range 11 {
		loops = count("j"+fmt.Sprint(10-k), "2", one, loops)
	}
	// j1 is less than 100000, but its count seems to be up to 1100000: k and m are not great together.
	far := count("j1", "1000000k+499999m-900000", one, count("j2", "j1-99990", one, lin("1000000j1+1000000j2+17")))
	far = count("j0", "2", zero, count("k", "j0+1", zero, count("m", "3-2j0", zero, far)))
	steps := []api.Step{{Op: "add", Args: []int{0, 1}}}
	for k := range 59 {
		steps = append(steps, api.Step{Op: sample.Pick(sample.NewDice(k), "add", "sub", "max"), Args: []int{k + 2, k}})
	}
	wide := api.Pull{Op: "code", Fun: steps}
	for k := range 20 {
		wide.Kids = append(wide.Kids, sample.Read(0, "0"), sample.Number(1000+k))
	}
	wide.Kids = wide.Kids[:20]
	for i, c := range []struct {
		t    string
		body api.Pull
		n    int
	}{
		{"[n]int", sample.Op("not", sample.Read(0, "i0")), 3}, {"[n]bool", sample.Op("and", sample.Read(1, "i0"), sample.Op("not", sample.Read(1, "n-1-i0"))), 3}, {"[n]int", sample.Op("toint", sample.Read(1, "i0")), 3}, {"[n]int", sample.Op("select", sample.Read(1, "i0"), sample.Read(0, "i0"), one), 3}, {"bool", count("j0", "n", one, sample.Read(1, "j0")), -1}, {"bool", api.Pull{Op: "reduce", Name: "j", At: sample.Linears("n"), Fun: sample.Prim("or"), Kids: []api.Pull{zero, sample.Read(1, "j")}}, 3},
		// The sum of truth values is none, but what is added is one.
		{"int", api.Pull{Op: "reduce", Name: "j", At: sample.Linears("n"), Fun: []api.Step{{Op: "toint", Args: []int{1}}, {Op: "add", Args: []int{0, 2}}}, Kids: []api.Pull{zero, sample.Read(1, "j")}}, 3},
		{"int", api.Pull{Op: "reduce", Name: "j", At: sample.Linears("n"), Fun: []api.Step{{Op: "select", Args: []int{0, 0, 1}}}, Kids: []api.Pull{one, sample.Read(1, "j")}}, 3}, {"int", api.Pull{Op: "reduce", Name: "j", At: sample.Linears("n"), Fun: nil, Kids: []api.Pull{one, sample.Read(0, "j")}}, 3}, {"int", api.Pull{Op: "reduce", Name: "j", At: sample.Linears("n"), Fun: []api.Step{{Op: "const", Num: 9}}, Kids: []api.Pull{one, sample.Read(0, "j")}}, 3}, {"int", api.Pull{Op: "code", Fun: []api.Step{{Op: "truth", Num: 1}, {Op: "not", Args: []int{0}}}}, 3}, {"int", api.Pull{Op: "code", Kids: []api.Pull{one, sample.Read(0, "0")}}, 3},
		{"[n]int", when("i0-1", sample.Read(0, "i0-1"), sample.Read(0, "i0")), 3}, {"[n]int", when("5-i0", sample.Read(0, "i0"), sample.Read(0, "i0+9")), 3}, {"[n]int", when("i0-5", sample.Read(0, "i0+9"), sample.Read(0, "i0")), 3}, {"[n]int", when("i0-1", zero, when("-i0", lin("i0"), one)), 3},
		{"int", dynamic(0, 4, sample.Read(2, "")), 3}, {"int", dynamic(0, 0, sample.Read(2, "")), 3}, {"int", dynamic(0, 4, one), 3}, {"int", dynamic(0, 4, sample.Number(3)), 3}, {"int", dynamic(0, 4, sample.Number(-1)), 3}, {"int", dynamic(0, 4, sample.Number(-2147483648)), 3}, {"int", dynamic(0, 4, one), 0}, {"[3]int", dynamic(0, 4, lin("i0+1")), 3}, {"[3]int", dynamic(0, 4, dynamic(0, 7, lin("2i0-1"))), 3},
		{"[n]int", lin("1000000n-1000000i0+i0"), 3}, {"[n]int", lin("1000000n+1000000i0"), 4096}, {"int", lin("1000000n"), 4096}, {"int", lin("1"), 3}, {"[n]int", sample.Read(0, "1000000i0-999999i0"), 3}, {"[n]int", sample.Read(0, "1000n-1000n+i0"), 3}, {"[1]int", sample.Read(0, "1000000i0"), 3},
		// Sums that leave the range of the machine on the way, or could do so.
		{"int", count("j0", "1000000n-999000n", zero, lin("1000000j0-999999j0")), 3}, {"int", count("j0", "90000n", zero, lin("1000000j0")), 3}, {"int", count("j0", "100n", zero, count("j1", "100n", one, lin("1000000j0-1000000j1"))), 3}, {"int", far, 3}, {"int", count("j0", "-n", one, lin("j0")), 3}, {"int", count("j0", "0", one, sample.Read(0, "99")), 3}, {"int", count("j0", "n-3", one, sample.Read(0, "99")), 3},
		{"int", deep, 3}, {"int", loops, 3}, {"int", wide, 3},
	} {
		k := single(c.t, c.body)
		n := max(c.n, 0)
		if c.n < 0 {
			// The sum of truth values is no truth value.
			n = 3
			k.Values[3].Elem = api.Int
		}
		dims := []api.Value{{Var: "n", N: n}}
		p, e := plan.Make(k, dims)
		if e != api.OK {
			t.Fatalf("%d: %d", i, e)
		}
		inputs := []api.Array{{Elem: api.Int, Dims: []int{n}}, {Elem: api.Bool, Dims: []int{n}}, {Elem: api.Int, Data: []int{7}}}
		for x := range n {
			inputs[0].Data, inputs[1].Data = append(inputs[0].Data, x%2), append(inputs[1].Data, x%2)
		}
		if !check(t, k, p, dims, inputs) {
			_, _, e := fuse.Run(k, dims, inputs)
			t.Errorf("%d: %v: %d", i, c.body, e)
		}
		inputs[2].Data[0] = 1
		check(t, k, p, dims, inputs)
	}
}

func TestRandom(t *testing.T) { // P54.1, P54.2, P54.3, P54.4, P54.5
	d := sample.NewDice(25)
	ran, made := 0, 0
	for i := range 3000 {
		var k api.Kernels
		if i%3 == 0 {
			k = fused(sample.Flat(d, 8))
		} else {
			k = sample.Kernels(d, 4)
		}
		if at, e := fuse.Valid(k); e != api.OK {
			t.Fatalf("%d", at)
		}
		dims := sample.Dims(d, 4)
		p, e := plan.Make(k, dims)
		if e != api.OK {
			continue
		}
		inputs := sample.Inputs(d, k.Values[:k.Inputs], dims)
		if _, e := compile.Make(k, p, dims); e == api.ErrLimit && compile.Weight(k) > 120 {
			continue
		}
		made++
		isRun := check(t, k, p, dims, inputs)
		if isRun {
			ran++
		}
		for _, q := range []api.Plan{sample.Apart(d, k, dims), sample.Mixed(d, k, p, dims)} {
			if check(t, k, q, dims, inputs) != isRun {
				t.Fatal("another plan")
			}
		}
	}
	if ran < 800 || made < 2000 {
		t.Errorf("%d of %d", ran, made)
	}
}

func TestStores(t *testing.T) { // P54.3: words are stored in the place of the value of the kernel
	d := sample.NewDice(26)
	for range 600 {
		k := sample.Kernels(d, 1)
		dims := sample.Dims(d, 4)
		p, e := plan.Make(k, dims)
		if e != api.OK {
			continue
		}
		b, e := compile.Make(k, p, dims)
		if e != api.OK {
			t.Fatalf("%d", e)
		}
		m := sample.NewMachine(b, arena(b, sample.Inputs(d, k.Values[:k.Inputs], dims)))
		m.Most = 1 << 23
		m.Run()
		place := p.Places[len(k.Values)-1]
		if slices.ContainsFunc(m.Stored, func(at int) bool { return at < place.Offset || at >= place.Offset+place.Size }) {
			text, _ := bytecode.Print(b.Ops)
			t.Fatalf("%s: %v, not within %v", text, m.Stored, place)
		}
	}
}

func TestGreat(t *testing.T) { // P54.1: only great programs have ErrLimit
	var parts []api.Pull
	for k := range 16 {
		parts = append(parts, sample.Op("mul", sample.Number(100+k), sample.Read(0, "n-1-i0")))
	}
	for len(parts) > 1 {
		parts = append(parts[2:], sample.Op("add", parts[0], parts[1]))
	}
	k := single("[n]int", parts[0])
	dims := sample.Values("n=3")
	p, _ := plan.Make(k, dims)
	if w := compile.Weight(k); w != 119 {
		t.Errorf("%d", w)
	}
	check(t, k, p, dims, sample.Arrays("#[3: 1 2 3]", "#b[3: 0 0 0]", "#[: 1]"))
	wide := api.Pull{Op: "read", Dynamic: true, Kids: []api.Pull{sample.Number(1)}}
	for range 10 {
		wide = sample.Op("add", wide, wide)
	}
	k = single("[n]int", wide)
	if at, e := fuse.Valid(k); e != api.OK {
		t.Errorf("%d", at)
	}
	if _, e := compile.Make(k, p, dims); e != api.ErrLimit {
		t.Errorf("%d", e)
	}
}
