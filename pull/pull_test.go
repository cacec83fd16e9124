package pull_test

import (
	"fmt"
	"slices"
	"strings"
	"testing"

	"framewise/api"
	"framewise/array"
	"framewise/cells"
	"framewise/clone"
	"framewise/flat"
	"framewise/linear"
	"framewise/pull"
	"framewise/sample"
	"framewise/shape"
)

var in = sample.Instr

// show writes a pull.
func show(p api.Pull) string {
	s := p.Op
	if p.Op == "const" {
		s = fmt.Sprint(p.Num)
	}
	if p.Op == "read" {
		s = fmt.Sprint("v", p.Value)
	}
	if p.Check != 0 {
		s += fmt.Sprint("!", p.Check)
	}
	if p.Dynamic {
		s += "?"
	}
	s += p.Name
	if len(p.At) > 0 {
		var at []string
		for _, l := range p.At {
			at = append(at, linear.Print(l))
		}
		s += "[" + strings.Join(at, ", ") + "]"
	}
	if len(p.Kids) > 0 {
		var kids []string
		for _, k := range p.Kids {
			kids = append(kids, show(k))
		}
		s += "(" + strings.Join(kids, ", ") + ")"
	}
	return s
}

func read(v int, at string) api.Pull {
	return api.Pull{Op: "read", Value: v, At: sample.Linears(at)}
}

func num(n int) api.Pull { return api.Pull{Op: "const", Num: n} }

func lin(s string) api.Pull { return api.Pull{Op: "linear", At: sample.Linears(s)} }

func op(name string, kids ...api.Pull) api.Pull { return api.Pull{Op: name, Kids: kids} }

func change(p api.Pull, f func(*api.Pull)) api.Pull { f(&p); return p }

func dynamic(v int, at string, check int, kid api.Pull) api.Pull {
	return api.Pull{Op: "read", Value: v, At: sample.Linears(at), Dynamic: true, Check: check, Kids: []api.Pull{kid}}
}

func cond(at string, a, b api.Pull) api.Pull {
	return api.Pull{Op: "if", At: sample.Linears(at), Kids: []api.Pull{a, b}}
}

func sum(name, at string, a, b api.Pull) api.Pull {
	return api.Pull{Op: "reduce", Name: name, At: sample.Linears(at), Fun: sample.Prim("add"), Kids: []api.Pull{a, b}}
}

func TestValid(t *testing.T) { // P43.1
	vars := []string{"n", "i0"}
	for i, c := range []struct {
		p    api.Pull
		want bool
	}{
		{num(5), true}, {num(1 << 31), false}, {num(-1 << 31), true}, {lin("n+i0"), true}, {lin("m"), false}, {lin("n n"), false}, {lin(""), false}, {read(1, "i0 n"), true}, {read(2, ""), false}, {read(-1, ""), false}, {read(0, "n n n n n n"), true}, {read(0, "n n n n n n n"), false}, {read(0, "m"), false},
		{dynamic(0, "n", 3, num(1)), true}, {dynamic(0, "n n n n n", 0, num(1)), true}, {dynamic(0, "n n n n n n", 0, num(1)), false}, {dynamic(0, "", -1, num(1)), false}, {change(read(0, ""), func(p *api.Pull) { p.Check = 1 }), false}, {change(read(0, ""), func(p *api.Pull) { p.Dynamic = true }), false}, {change(dynamic(0, "", 0, num(1)), func(p *api.Pull) { p.Kids = append(p.Kids, num(1)) }), false}, {change(read(0, ""), func(p *api.Pull) { p.Kids = []api.Pull{num(1)} }), false},
		{cond("n", num(1), num(2)), true}, {cond("n n", num(1), num(2)), false}, {op("if", num(1), num(2)), false}, {cond("n", num(1), num(1<<40)), false}, {op("add", num(1), num(2)), true}, {op("add", num(1)), false}, {op("plus", num(1)), false}, {op("select", num(1), num(1), num(1)), true}, {change(op("add", num(1), num(2)), func(p *api.Pull) { p.At = sample.Linears("n") }), false}, {change(op("add", num(1), num(2)), func(p *api.Pull) { p.Num = 1 }), false},
		{sum("j0", "n", num(0), lin("j0+n")), true}, {sum("j0", "n", lin("j0"), num(0)), false}, {sum("j0", "j0", num(0), num(0)), false}, {sum("n", "n", num(0), num(0)), false}, {sum("J", "n", num(0), num(0)), false}, {sum("j0", "n", num(0), sum("j0", "n", num(0), num(0))), false}, {sum("j0", "n", num(0), sum("j1", "j0", lin("j0"), lin("j0+j1"))), true}, {sum("j0", "n", sum("j0", "n", num(0), lin("j0")), lin("j0")), true}, {op("add", sum("j0", "n", num(0), num(0)), lin("j0")), false}, {change(sum("j0", "n", num(0), num(0)), func(p *api.Pull) { p.Fun = []api.Step{{Op: "add", Args: []int{0, 2}}} }), false}, {change(sum("j0", "n", num(0), num(0)), func(p *api.Pull) { p.Fun = nil }), true},
		{api.Pull{Op: "code", Fun: sample.Prim("add"), Kids: []api.Pull{num(1), num(2)}}, true}, {api.Pull{Op: "code", Fun: sample.Prim("add"), Kids: []api.Pull{num(1)}}, false}, {api.Pull{Op: "code"}, false}, {api.Pull{Op: "code", Fun: []api.Step{{Op: "const"}}}, true}, {api.Pull{Op: "code", Kids: slices.Repeat([]api.Pull{num(1)}, 20)}, true}, {api.Pull{Op: "code", Kids: slices.Repeat([]api.Pull{num(1)}, 21)}, false}, {api.Pull{}, false}, {change(num(1), func(p *api.Pull) { p.Name = "n" }), false},
	} {
		if pull.Valid(c.p, vars, 2) != c.want {
			t.Errorf("%d: %s", i, show(c.p))
		}
	}
	deep := func(n int) api.Pull {
		p := num(1)
		for ; n > 1; n-- {
			p = op("neg", p)
		}
		return p
	}
	if !pull.Valid(deep(4000), nil, 0) || pull.Valid(deep(4001), nil, 0) || pull.Nodes(deep(60000)) != 60000 {
		t.Error("the number of nodes")
	}
}

func TestParts(t *testing.T) { // P43.1
	p := op("add", read(3, "n"), dynamic(1, "", 2, cond("n", read(3, ""), sum("j0", "n", num(0), read(0, "j0")))))
	if pull.Nodes(p) != 8 || !slices.Equal(pull.Reads(p), []int{0, 1, 3}) || pull.Reads(num(1)) != nil {
		t.Errorf("%d %v", pull.Nodes(p), pull.Reads(p))
	}
	for i, f := range []func(p *api.Pull){
		func(p *api.Pull) { p.Op = "sub" }, func(p *api.Pull) { p.Num = 1 }, func(p *api.Pull) { p.Value = 1 }, func(p *api.Pull) { p.Name = "x" }, func(p *api.Pull) { p.At = sample.Linears("n") }, func(p *api.Pull) { p.Dynamic = true }, func(p *api.Pull) { p.Check = 1 }, func(p *api.Pull) { p.Fun = sample.Prim("add") }, func(p *api.Pull) { p.Kids = nil },
	} {
		q := clone.Pull(p)
		if f(&q); pull.Equal(p, q) {
			t.Errorf("%d", i)
		}
	}
	if !pull.Equal(p, clone.Pull(p)) || !pull.Equal(api.Pull{At: []api.Linear{}, Kids: []api.Pull{}}, api.Pull{}) {
		t.Error("Equal")
	}
	for k, want := range map[int]string{0: "i0", 12: "i12", -1: ""} {
		if pull.Loop(k) != want {
			t.Errorf("%d", k)
		}
	}
}

func TestSubst(t *testing.T) { // P43.1, P43.4
	p := op("add", read(0, "i0+1"), sum("j0", "n", num(0), read(0, "j0+i0")))
	bind := func(v, d string) api.Bind { return api.Bind{Kind: api.DimVar, Var: v, Dim: sample.Linear(d)} }
	q, e := pull.Subst(p, []api.Bind{bind("i0", "2k"), bind("n", "3")})
	if show(q) != "add(v0[2k+1], reducej0[3](0, v0[j0+2k]))" || e != api.OK {
		t.Errorf("%s %d", show(q), e)
	}
	if q.Kids[0].At[0].Const = 9; show(p.Kids[0]) != "v0[i0+1]" {
		t.Error("memory is shared")
	}
	for i, c := range []struct {
		p api.Pull
		l []api.Bind
		e api.Errno
	}{
		{p, []api.Bind{bind("j0", "1")}, api.ErrName}, {p, []api.Bind{bind("k", "j0+1")}, api.ErrName}, {p, []api.Bind{bind("i0", "1"), bind("i0", "1")}, api.ErrArg}, {p, []api.Bind{bind("i0", "1000000")}, api.ErrLimit}, {op("neg", lin("n"), change(lin("n"), func(p *api.Pull) { p.At[0].Const = 1 << 40 })), nil, api.ErrArg}, {change(num(1), func(p *api.Pull) { p.Kids = slices.Repeat([]api.Pull{num(1)}, 4000) }), nil, api.ErrArg}, {p, []api.Bind{{Kind: api.RowVar, Var: "j0"}}, api.OK}, {api.Pull{Op: "?"}, nil, api.OK},
	} {
		if q, e := pull.Subst(c.p, c.l); e != c.e || e != api.OK && q.Op != "" {
			t.Errorf("%d: %d", i, e)
		}
	}
	a := sample.Arrays("#[9: 1 2 3 4 5 6 7 8 9]")
	under, _ := pull.Subst(p, []api.Bind{bind("i0", "2k")})
	for k := range 3 {
		x, c, _, e := pull.Eval(under, []api.Value{{Var: "k", N: k}, {Var: "n", N: 3}}, a)
		y, d, _, f := pull.Eval(p, []api.Value{{Var: "i0", N: 2 * k}, {Var: "n", N: 3}}, a)
		if x != y || c != d || e != api.OK || f != api.OK {
			t.Errorf("%d: %d %d", k, x, y)
		}
	}
}

func TestEval(t *testing.T) { // P43.1
	arrays := sample.Arrays("#[3: 5 6 7]", "#[2 2: 1 2 3 4]", "#[: 9]", "#b[2: 0 1]")
	arrays = append(arrays, api.Array{})
	env := []api.Value{{Var: "n", N: 3}, {Var: "big", N: 1<<30 + 1}, {Var: "top", N: 1 << 30}}
	heavy := sum("j0", "1000", num(0), sum("j1", "1000", num(0), num(1)))
	for i, c := range []struct {
		p          api.Pull
		want       int
		reads, ops int
		violated   []int
		e          api.Errno
	}{
		{op("add", read(0, "1"), read(2, "")), 15, 2, 1, nil, 0}, {read(1, "1 0"), 3, 1, 0, nil, 0}, {lin("2n-7"), -1, 0, 0, nil, 0}, {lin("4top"), 0, 0, 0, nil, 0}, {lin("2top-1"), 1<<31 - 1, 0, 0, nil, 0}, {lin("1000000top"), 0, 0, 0, nil, api.ErrLimit}, {lin("big"), 0, 0, 0, nil, api.ErrLimit}, {cond("n-3", num(1), lin("big")), 1, 0, 0, nil, 0}, {cond("n-4", lin("big"), num(2)), 2, 0, 0, nil, 0}, {cond("big", num(1), num(2)), 0, 0, 0, nil, api.ErrLimit},
		{dynamic(0, "", 3, num(2)), 7, 1, 0, nil, 0}, {dynamic(0, "", 3, num(3)), 0, 1, 0, []int{3}, 0}, {dynamic(0, "", 0, num(-1)), 0, 1, 0, nil, 0}, {dynamic(1, "1", 3, num(2)), 0, 1, 0, []int{3}, 0}, {dynamic(1, "2", 3, num(2)), 0, 0, 0, nil, api.ErrRange}, {dynamic(1, "", 3, num(2)), 0, 0, 0, nil, api.ErrRank}, {read(0, "3"), 0, 0, 0, nil, api.ErrRange}, {read(0, "-1"), 0, 0, 0, nil, api.ErrRange}, {read(0, ""), 0, 0, 0, nil, api.ErrRank}, {read(0, "big"), 0, 0, 0, nil, api.ErrLimit}, {op("add", dynamic(0, "", 5, num(9)), dynamic(0, "", 3, num(9))), 0, 2, 1, []int{3, 5}, 0},
		{sum("j0", "n", num(10), read(0, "j0")), 28, 3, 3, nil, 0}, {sum("j0", "n-3", num(10), read(0, "j0")), 10, 0, 0, nil, 0}, {sum("j0", "-n", num(10), read(0, "j0")), 10, 0, 0, nil, 0}, {sum("j0", "n", num(0), sum("j1", "j0", num(0), lin("j0+j1"))), 6, 0, 6, nil, 0}, {sum("j0", "4", num(0), read(0, "j0")), 0, 0, 0, nil, api.ErrRange},
		{api.Pull{Op: "code", Fun: []api.Step{{Op: "const", Num: 2}, {Op: "mul", Args: []int{0, 1}}}, Kids: []api.Pull{read(0, "0")}}, 10, 1, 1, nil, 0}, {op("not", num(2)), 0, 0, 0, nil, api.ErrType}, {api.Pull{Op: "code", Fun: sample.Prim("not"), Kids: []api.Pull{num(2)}}, 0, 0, 0, nil, api.ErrType}, {op("add", read(0, "9"), op("not", num(2))), 0, 0, 0, nil, api.ErrRange}, {op("add", op("not", num(2)), read(0, "9")), 0, 0, 0, nil, api.ErrType}, {heavy, 0, 0, 0, nil, api.ErrLimit}, {sum("j0", "999998", num(0), num(1)), 999998, 0, 999998, nil, 0}, {sum("j0", "999999", num(0), num(1)), 0, 0, 0, nil, api.ErrLimit},
		{read(4, ""), 0, 0, 0, nil, api.ErrArg}, {read(5, ""), 0, 0, 0, nil, api.ErrArg}, {lin("m"), 0, 0, 0, nil, api.ErrArg}, {cond("n", num(1), read(4, "")), 0, 0, 0, nil, api.ErrArg}, {op("toint", read(3, "1")), 1, 1, 1, nil, 0},
	} {
		n, counts, violated, e := pull.Eval(c.p, env, arrays)
		if n != c.want || counts != (api.Counts{Reads: c.reads, Ops: c.ops}) || !slices.Equal(violated, c.violated) || e != c.e {
			t.Errorf("%d: %s: %d %v %v %d", i, show(c.p), n, counts, violated, e)
		}
	}
	if _, _, _, e := pull.Eval(num(1), append(env, env[0]), arrays); e != api.ErrArg {
		t.Errorf("%d", e)
	}
}

func TestElement(t *testing.T) { // P43.1
	lists := []string{"[n]int", "int", "[n, m]int", "[m]int"}
	for i, c := range []struct {
		code []api.Instr
		want string
	}{
		{[]api.Instr{in("add v0@0 v1|n")}, "add(v0[i0], v1)"}, {[]api.Instr{in("add v0@0 v1|n"), in("reverse v4")}, "add(v0[-i0+n-1], v1)"}, {[]api.Instr{in("add v0@1 v3@0|m n")}, "add(v0[i1], v3[i0])"}, {[]api.Instr{in("iota |n|m")}, "linear[i1]"}, {[]api.Instr{in("size |n|m+1")}, "linear[m+1]"}, {[]api.Instr{in("fill v0@0|n|3")}, "v0[i0]"}, {[]api.Instr{in("take v2@0|n|m")}, "v2[i0, i1]"}, {[]api.Instr{in("drop v2@0|n|1")}, "v2[i0, i1+1]"}, {[]api.Instr{in("append v0 v3")}, "if[i0-n](v3[i0-n], v0[i0])"}, {[]api.Instr{in("transpose v2")}, "v2[i1, i0]"}, {[]api.Instr{in("windows v0||2")}, "v0[i0+i1]"}, {[]api.Instr{in("append v0 v0"), in("chunk v4", sample.Num(2))}, "if[2i0+i1-n](v0[2i0+i1-n], v0[2i0+i1])"}, {[]api.Instr{in("fill v0@0|n|n"), in("diagonal v4")}, "v0[i0]"},
		{[]api.Instr{in("index v2@0 v0@0|n", sample.Check(4))}, "v2!4?[i0](v0[i0])"}, {[]api.Instr{in("neg v1"), in("index v0 v4")}, "v0?(neg(v1))"}, {[]api.Instr{in("pack v0@0 v1 v1|n")}, "if[i1-1](if[i1-2](v1, v1), v0[i0])"}, {[]api.Instr{in("pack v1")}, "v1"}, {[]api.Instr{in("fold v1 v2@0|n")}, "reducej0[m](v1, v2[i0, j0])"}, {[]api.Instr{in("fold v1 v2@0|n"), in("fold v1 v4")}, "reducej0[n](v1, reducej1[m](v1, v2[j0, j1]))"},
		{[]api.Instr{sample.Const("#[: 7]")}, "7"}, {[]api.Instr{sample.Const("#[0 3:]")}, "0"}, {[]api.Instr{sample.Const("#[3: 5 6 7]")}, "if[i0-1](if[i0-2](7, 6), 5)"}, {[]api.Instr{sample.Const("#[1 2: 5 6]")}, "if[i1-1](6, 5)"}, {[]api.Instr{sample.Const("#[2 2: 5 6 7 8]"), in("transpose v4")}, "if[i1-1](if[i0-1](8, 7), if[i0-1](6, 5))"}, {[]api.Instr{{Op: "const", Frame: sample.Linears("n"), Array: sample.Arrays("#[2: 5 6]")[0]}}, "if[i1-1](6, 5)"},
	} {
		f := sample.Program("m n", lists, []int{0}, c.code...)
		made := make([]bool, len(lists)+len(c.code))
		p, e := pull.Element(f, len(made)-1, made)
		if show(p) != c.want || e != api.OK {
			t.Errorf("%d: %s %d", i, show(p), e)
		}
	}
	f := sample.Program("m n", lists, []int{0}, in("scan v0"), in("neg v4@0|n"), in("update v0 v1 v1"), in("reverse v0"), in("index v7 v1"))
	made := make([]bool, 9)
	for i, c := range []struct {
		f    api.Flat
		v    int
		made []bool
		want string
		e    api.Errno
	}{
		{api.Flat{}, 0, nil, "", api.ErrCode}, {f, 99, made[1:], "", api.ErrArg}, {f, 9, made, "", api.ErrRange}, {f, -1, made, "", api.ErrRange}, {sample.Program("i0", []string{"int"}, []int{0}), 0, []bool{false}, "", api.ErrName}, {sample.Program("j12", []string{"int"}, []int{0}), 0, []bool{false}, "", api.ErrName}, {sample.Program("i ix k0", []string{"int"}, []int{0}), 0, []bool{false}, "v0", api.OK}, {f, 2, made, "v2[i0, i1]", api.OK}, {f, 4, made, "", api.ErrState}, {f, 5, made, "", api.ErrState}, {f, 6, made, "", api.ErrState}, {f, 8, made, "", api.ErrState}, {f, 5, []bool{4: true, 8: false}, "neg(v4[i0])", api.OK}, {f, 4, []bool{4: true, 8: false}, "", api.ErrState}, {f, 8, []bool{7: true, 8: false}, "v7?(v1)", api.OK},
	} {
		if p, e := pull.Element(c.f, c.v, c.made); e != c.e || e == api.OK && show(p) != c.want || e != api.OK && p.Op != "" {
			t.Errorf("%d: %s %d", i, show(p), e)
		}
	}
	// 2^12 reads, and an array of 2001 elements.
	code := []api.Instr{in("add v1 v1")}
	for k := range 11 {
		code = append(code, in(fmt.Sprintf("add v%d v%d", k+4, k+4)))
	}
	f = sample.Program("m n", lists, []int{0}, code...)
	if _, e := pull.Element(f, 15, make([]bool, 16)); e != api.ErrLimit {
		t.Errorf("%d", e)
	}
	if p, e := pull.Element(f, 14, make([]bool, 16)); pull.Nodes(p) != 4095 && e != api.ErrLimit {
		t.Errorf("%d %d", pull.Nodes(p), e)
	}
	if p, e := pull.Element(f, 13, make([]bool, 16)); pull.Nodes(p) != 2047 || e != api.OK {
		t.Errorf("%d %d", pull.Nodes(p), e)
	}
	// What cannot be counted is no worse than what is not there.
	f = sample.Program("m n", lists, []int{0}, append(code, in("scan v0"), in("index v16 v15"), in("add v17 v15"))...)
	if _, e := pull.Element(f, 18, make([]bool, 19)); e != api.ErrState {
		t.Errorf("%d", e)
	}
	great := sample.Program("n", []string{"[n+500000]int"}, []int{0}, in("append v0 v0"), in("drop v1||500000"), in("drop v2||500000"), in("drop v3||1"))
	great.Where = append(great.Where, sample.Linear("n+500000"))
	if _, e := pull.Element(great, 4, make([]bool, 5)); e != api.ErrLimit {
		t.Errorf("%d", e)
	}
}

func TestRandom(t *testing.T) { // P43.2, P43.3, P43.5
	d := sample.NewDice(7)
	checked, elements := 0, 0
	for range 400 {
		f := sample.Flat(d, 6)
		dims := sample.Dims(d, 3)
		inputs := sample.Inputs(d, f.Inputs, dims)
		all := clone.Flat(f)
		count := len(f.Inputs) + len(f.Code)
		arrays := slices.Clone(inputs)
		isRun := true
		checks := make([][]int, count)
		for v := len(f.Inputs); v < count; v++ {
			all.Results = []int{v}
			all.Code = f.Code[:v-len(f.Inputs)+1]
			out, violated, e := flat.Run(all, dims, inputs)
			isRun = isRun && e == api.OK
			if isRun {
				arrays = append(arrays, out[0])
				checks[v] = violated
			}
		}
		if !isRun {
			continue
		}
		some, every := make([]bool, count), slices.Repeat([]bool{true}, count)
		for v := range some {
			some[v] = d.N(3) == 0
		}
		for v := len(f.Inputs); v < count; v++ {
			c := f.Code[v-len(f.Inputs)]
			types := flat.Types(f)
			vars := append([]string{"m", "n"}, loops(len(types[v].Shape.Dims))...)
			a, e := pull.Element(f, v, some)
			b, g := pull.Element(f, v, every)
			if g == api.ErrState && c.Op != "scan" && c.Op != "update" || g != api.OK && g != api.ErrState {
				t.Fatalf("%s: %d", c.Op, g)
			}
			for _, x := range pull.Reads(b) {
				if x >= len(f.Inputs) && !slices.Contains(c.Args, x) {
					t.Fatalf("%s reads v%d", c.Op, x)
				}
			}
			if e == api.OK && !pull.Valid(a, vars, count) || g == api.OK && !pull.Valid(b, vars, count) {
				t.Fatalf("%s is not valid", show(a))
			}
			own, _ := shape.Eval(types[v].Shape, dims)
			indices, _ := cells.Indices(own)
			violated := map[int]bool{}
			for _, index := range indices {
				env := slices.Clone(dims)
				for k, n := range index {
					env = append(env, api.Value{Var: pull.Loop(k), N: n})
				}
				want, _ := array.At(arrays[v], index)
				for k, p := range []api.Pull{a, b} {
					if []api.Errno{e, g}[k] != api.OK {
						continue
					}
					n, _, marks, h := pull.Eval(p, env, arrays)
					if n != want || h != api.OK {
						t.Fatalf("%s at %v: %d %d, not %d", show(p), index, n, h, want)
					}
					elements++
					if k == 1 {
						for _, x := range marks {
							violated[x] = true
						}
					}
				}
			}
			if c.Op == "index" && c.Check != 0 && len(violated) > 0 {
				checked++
				if !slices.Contains(checks[v], c.Check) {
					t.Fatalf("%v", violated)
				}
			}
			if c.Op == "index" && c.Check != 0 && g == api.OK && len(violated) == 0 && slices.Contains(checks[v], c.Check) && !earlier(f, v, c.Check) {
				t.Fatalf("the check %d is not violated", c.Check)
			}
		}
	}
	if checked < 10 || elements < 2000 {
		t.Errorf("%d %d", checked, elements)
	}
}

// earlier reports whether a check is that of several instructions up to the one of a value.
func earlier(f api.Flat, v, check int) bool {
	count := 0
	for _, c := range f.Code[:v-len(f.Inputs)+1] {
		if c.Check == check {
			count++
		}
	}
	return count > 1
}

func loops(n int) []string {
	var l []string
	for k := range n {
		l = append(l, pull.Loop(k))
	}
	return l
}
