package flat_test

import (
	"fmt"
	"slices"
	"strings"
	"testing"

	"framewise/api"
	"framewise/array"
	"framewise/clone"
	"framewise/flat"
	"framewise/linear"
	"framewise/poly"
	"framewise/sample"
	"framewise/types"
)

var (
	typ    = sample.Type
	lins   = sample.Linears
	prim   = sample.Prim
	in     = sample.Instr
	arrays = sample.Arrays
	dims   = sample.Values
)

// program makes a program, whose instructions get their types.
func program(vars, where string, inputs []string, results []int, code ...api.Instr) api.Flat {
	f := api.Flat{Vars: strings.Fields(vars), Where: lins(where), Results: results}
	for _, s := range inputs {
		f.Inputs = append(f.Inputs, typ(s))
	}
	values := slices.Clone(f.Inputs)
	for _, i := range code {
		t, _, e := flat.Infer(values, i)
		if e != api.OK {
			panic(fmt.Sprint(i, e))
		}
		i.Type = t
		f.Code, values = append(f.Code, i), append(values, t)
	}
	return f
}

func show(t api.Type, conds []api.Linear) string {
	s, _ := types.Print(t)
	for _, c := range conds {
		s += " " + linear.Print(c)
	}
	return s
}

func TestInfer(t *testing.T) { // P38.1
	var values []api.Type
	for _, s := range []string{"int", "bool", "[n]int", "[n]bool", "[n, m]int", "[m, n]int", "[n, n]int", "[3n+6]int", "[m]int", "[4]int", "[a, b, c, d, e, f]int", "[1000000]int"} {
		values = append(values, typ(s))
	}
	fun := func(op string) func(*api.Instr) { return func(i *api.Instr) { i.Fun = prim(op) } }
	num := func(n int) func(*api.Instr) { return func(i *api.Instr) { i.Num = n } }
	check := func(n int) func(*api.Instr) { return func(i *api.Instr) { i.Check = n } }
	arr := func(s string) func(*api.Instr) { return func(i *api.Instr) { i.Array, _ = array.Parse(s) } }
	for i, c := range []struct {
		in   api.Instr
		want string
		e    api.Errno
	}{
		{in("add v2@0 v0|n"), "[n]int", 0}, {in("add v4@0.1 v2@0|n m"), "[n, m]int", 0}, {in("add v5@1.0 v2@1|n m"), "", api.ErrCode}, {in("add v2@1 v2@0|n n"), "[n, n]int", 0}, {in("add v2@0 v8@0|n"), "", api.ErrCode}, {in("add v2 v0|n"), "", api.ErrCode}, {in("add v2@0 v3@0|n"), "", api.ErrCode}, {in("lt v2@0 v0|n"), "[n]bool", 0}, {in("select v3@0 v0 v2@0|n"), "[n]int", 0}, {in("add v0"), "", api.ErrCode}, {in("add v2@1 v0|n"), "", api.ErrCode}, {in("add v0@0 v0|n"), "", api.ErrCode}, {in("add v6@0.0 v0|n"), "", api.ErrCode}, {in("add v0 v0|n"), "[n]int", 0}, {in("add v99 v0"), "", api.ErrNone}, {in("add v0 v0||1"), "", api.ErrCode}, {in("add v0 v0", num(1)), "", api.ErrCode}, {in("add v0 v0", check(1)), "", api.ErrCode}, {in("add v0 v0", fun("add")), "", api.ErrCode}, {in("add v0 v0", arr("#[: 1]")), "", api.ErrCode}, {in("plus v0 v0"), "", api.ErrCode},
		{in("const", arr("#b[2 3: 0 0 0 0 0 0]")), "[2, 3]bool", 0}, {in("const |n", arr("#[: 1]")), "[n]int", 0}, {in("const"), "", api.ErrCode}, {in("const v0", arr("#[: 1]")), "", api.ErrCode},
		{in("size ||n+1"), "int", 0}, {in("size"), "", api.ErrCode}, {in("size v0||n"), "", api.ErrCode}, {in("iota |n|m-1"), "[n, m-1]int m-1", 0}, {in("fill v1||m"), "[m]bool m", 0}, {in("fill v2@0|n|m"), "[n, m]int m", 0}, {in("fill v2||m"), "", api.ErrCode}, {in("iota v0||m"), "", api.ErrCode},
		{in("take v2||2"), "[2]int 2 n-2", 0}, {in("take v4@0|n|k"), "[n, k]int k -k+m", 0}, {in("drop v2||k"), "[-k+n]int k -k+n", 0}, {in("windows v2||3"), "[n-2, 3]int 3 n-3", 0}, {in("take v0||2"), "", api.ErrCode}, {in("take v2"), "", api.ErrCode}, {in("windows v11||0"), "", api.ErrCode}, {in("drop v11||-1"), "", api.ErrCode}, {in("reverse v2"), "[n]int", 0}, {in("reverse v4"), "", api.ErrCode}, {in("reverse v3"), "[n]bool", 0},
		{in("append v2 v8"), "[m+n]int", 0}, {in("append v2 v3"), "", api.ErrCode}, {in("append v11 v9"), "", api.ErrCode}, {in("transpose v4"), "[m, n]int", 0}, {in("diagonal v6"), "[n]int", 0}, {in("diagonal v4"), "", api.ErrCode}, {in("chunk v7", num(3)), "[n+2, 3]int", 0}, {in("chunk v7", num(2)), "", api.ErrCode}, {in("chunk v7", num(0)), "", api.ErrCode}, {in("chunk v9", num(65)), "", api.ErrCode}, {in("chunk v9", num(4)), "[1, 4]int", 0},
		{in("index v2 v0", check(7)), "int", 0}, {in("index v3 v0"), "bool", 0}, {in("index v2 v1"), "", api.ErrCode}, {in("index v4@0 v2@0|n", check(1)), "[n]int", 0}, {in("index v2 v0", check(-1)), "", api.ErrCode}, {in("update v2 v0 v0"), "[n]int", 0}, {in("update v3 v0 v1", check(2)), "[n]bool", 0}, {in("update v2 v0 v1"), "", api.ErrCode},
		{in("pack v0 v2@0|n"), "[n, 2]int", 0}, {in("pack v0 v1"), "", api.ErrCode}, {in("pack"), "", api.ErrCode}, {in("pack" + strings.Repeat(" v0", 16)), "[16]int", 0}, {in("pack" + strings.Repeat(" v0", 17)), "", api.ErrCode},
		{in("fold v0 v2"), "int", 0}, {in("fold v0 v4@0|n"), "[n]int", 0}, {in("fold v1 v2"), "", api.ErrCode}, {in("fold v0 v2", fun("lt")), "", api.ErrCode}, {in("fold v1 v3", fun("eq")), "bool", 0}, {in("scan v2"), "[n]int", 0}, {in("scan v3"), "", api.ErrCode}, {in("scan v3", fun("xor")), "[n]bool", 0}, {in("scan v2", func(i *api.Instr) { i.Fun = nil }), "[n]int", 0},
		{in("fill v10@0.1.2.3.4.5|a b c d e f|2"), "", api.ErrCode}, {in("reverse v10@0.1.2.3.4|a b c d e"), "[a, b, c, d, e, f]int", 0},
		{in("add v0 v0", func(i *api.Instr) { i.Frame = []api.Linear{linear.Var("N")} }), "", api.ErrCode}, {in("add v0 v0", func(i *api.Instr) { i.Axes = nil }), "", api.ErrCode}, {in("iota", func(i *api.Instr) { i.Sizes = []api.Linear{linear.Var("N")} }), "", api.ErrCode},
	} {
		typ, conds, e := flat.Infer(values, c.in)
		if e != c.e || e == api.OK && show(typ, conds) != c.want || e != api.OK && (typ.Elem != "" || conds != nil) {
			t.Errorf("%d: %v: %s %d", i, c.in.Op, show(typ, conds), e)
		}
	}
	for _, bad := range []api.Type{typ("A"), typ("[r..]int"), {}} {
		if _, _, e := flat.Infer(append(slices.Clone(values), bad), in("add v99 v0")); e != api.ErrArg {
			t.Errorf("%d", e)
		}
	}
}

func good() api.Flat {
	return program("m n", "n-2", []string{"[n]int", "int", "[m]bool"}, []int{5, 0}, in("take v0||2"), in("add v3@0 v1|2"), in("fold v1 v4"), in("index v0 v1", func(i *api.Instr) { i.Check = 3 }))
}

func TestValid(t *testing.T) { // P38.1
	if at, e := flat.Valid(good()); at != 4 || e != api.OK {
		t.Fatalf("%d %d", at, e)
	}
	for i, c := range []struct {
		f  func(f *api.Flat)
		at int
	}{
		{func(f *api.Flat) { f.Vars = []string{"n", "m"} }, -1}, {func(f *api.Flat) { f.Vars = []string{"N", "m", "n"} }, -1}, {func(f *api.Flat) { f.Vars = []string{"m"} }, -1}, {func(f *api.Flat) { f.Vars = strings.Fields("a b c d e f g h i j m n p") }, -1},
		{func(f *api.Flat) { f.Inputs[1].Elem = "A" }, -1}, {func(f *api.Flat) { f.Inputs[1].Shape.Row = "r" }, -1}, {func(f *api.Flat) { f.Inputs[1].Shape.Dims = lins("n-1") }, -1}, {func(f *api.Flat) { f.Inputs = slices.Repeat(f.Inputs, 3) }, -1}, {func(f *api.Flat) { f.Where = append(f.Where, linear.Var("N")) }, -1}, {func(f *api.Flat) { f.Where = append(f.Where, lins("k")...) }, -1}, {func(f *api.Flat) { f.Code = slices.Repeat(f.Code, 101) }, -1}, {func(f *api.Flat) { f.Code[3].Type.Shape.Dims = lins("k") }, -1}, {func(f *api.Flat) { f.Code[3].Frame = lins("k") }, -1}, {func(f *api.Flat) { f.Code[0].Sizes = lins("k") }, -1},
		{func(f *api.Flat) { f.Where = nil }, 0}, {func(f *api.Flat) { f.Code[0].Args[0] = 3 }, 0}, {func(f *api.Flat) { f.Code[1].Args[1] = -1 }, 1}, {func(f *api.Flat) { f.Code[1].Type.Elem = "bool" }, 1}, {func(f *api.Flat) { f.Code[2].Fun = nil; f.Code[3].Op = "x" }, 3}, {func(f *api.Flat) { f.Code[3].Check = -1 }, 3}, {func(f *api.Flat) { f.Code[1].Frame = lins("3") }, 1}, {func(f *api.Flat) { f.Code[3].Type.Shape.Row = "r" }, 3},
		{func(f *api.Flat) { f.Results = nil }, 4}, {func(f *api.Flat) { f.Results = []int{7} }, 4}, {func(f *api.Flat) { f.Results = []int{-1} }, 4}, {func(f *api.Flat) { f.Results = make([]int, 9) }, 4},
	} {
		f := clone.Flat(good())
		c.f(&f)
		at, e := flat.Valid(f)
		if at != c.at || e != api.ErrCode {
			t.Errorf("%d: %d %d", i, at, e)
		}
		_, _, r := flat.Run(f, nil, nil)
		_, g := flat.Ground(f, nil)
		_, w := flat.Work(f)
		if _, p := flat.Print(f); r != api.ErrCode || g != api.ErrCode || w != api.ErrCode || p != api.ErrCode || flat.Types(f) != nil || flat.Uses(f) != nil {
			t.Errorf("%d: %d %d %d %d", i, r, g, w, p)
		}
	}
	for i, c := range []struct {
		where  string
		inputs []string
		code   []api.Instr
		want   bool
	}{
		{"", []string{"[n]int"}, []api.Instr{in("iota ||m")}, true}, {"", []string{"[n]int"}, []api.Instr{in("iota ||m-1")}, false}, {"m-1", []string{"[n]int"}, []api.Instr{in("iota ||m-1")}, true}, {"", []string{"[n]int"}, []api.Instr{in("size |m-1|m")}, false}, {"", []string{"[n]int"}, []api.Instr{in("append v0 v0"), in("iota ||2n")}, true}, {"", []string{"[n]int"}, []api.Instr{in("iota ||2n"), in("append v0 v0")}, false}, {"m-n", []string{"[m-n]int", "[m-n]int"}, nil, true}, {"", []string{"[2]int", "[n+1]int"}, nil, false}, {"", []string{"[n]int"}, []api.Instr{in("take v0||0")}, true}, {"", []string{"[n]int"}, []api.Instr{in("take v0||1")}, false}, {"", []string{"[n]int"}, []api.Instr{in("take v0||n")}, true}, {"-3", []string{"[-3]int"}, nil, true}, {"", []string{"[-3]int"}, nil, false},
	} {
		f := program("m n", c.where, c.inputs, []int{0}, c.code...)
		if _, e := flat.Valid(f); (e == api.OK) != c.want {
			t.Errorf("%d: %d", i, e)
		}
	}
	wide := good()
	if wide.Vars = strings.Fields("a b c d e f g h i j m n"); outcome(nil, nil, flatValid(wide)) != "[]" {
		t.Error("twelve variables")
	}
	if got := flat.Uses(good()); !slices.Equal(got, []int{3, 3, 0, 1, 1, 1, 0}) {
		t.Errorf("%v", got)
	}
	if got := flat.Types(good()); len(got) != 7 || show(got[4], nil) != "[2]int" {
		t.Errorf("%v", got)
	}
	f := good()
	flat.Types(f)[0].Shape.Dims[0].Const = 9
	if _, e := flat.Valid(f); e != api.OK {
		t.Error("memory is shared")
	}
}

func flatValid(f api.Flat) api.Errno {
	_, e := flat.Valid(f)
	return e
}

func outcome(results []api.Array, violated []int, e api.Errno) string {
	if e != api.OK {
		return api.Name(e)
	}
	s := ""
	for _, a := range results {
		text, _ := array.Print(a)
		s += text + " "
	}
	return s + fmt.Sprint(violated)
}

func TestRun(t *testing.T) { // P38.1
	long := "#[4096:" + strings.Repeat(" 0", 4096) + "]"
	bad := arrays("#[1: 1]", "#[: 1]", "#b[0:]")
	bad[0].Data[0] = 1 << 40
	for i, c := range []struct {
		f      api.Flat
		dims   string
		inputs []api.Array
		want   string
	}{
		{good(), "m=1 n=3", arrays("#[3: 5 6 7]", "#[: 1]", "#b[1: 0]"), "#[: 14] #[3: 5 6 7] []"},
		{good(), "m=1 n=3", arrays("#[3: 5 6 7]", "#[: 3]", "#b[1: 0]"), "#[: 20] #[3: 5 6 7] [3]"},
		{good(), "n=3 m=1", bad, "arg"}, {good(), "m=1", bad, "arg"}, {good(), "m=1 n=4097", bad, "arg"}, {good(), "m=-1 n=1", bad, "arg"}, {good(), "m=1 n=1", bad, "arg"}, {good(), "m=1 n=1", arrays("#[: 1]"), "arg"}, {good(), "m=1 n=1", arrays("#b[3: 1 1 1]", "#[: 1]", "#b[1: 0]"), "range"}, {good(), "m=1 n=2", arrays("#[3: 5 6 7]", "#[: 1]", "#[1: 0]"), "type"}, {good(), "m=1 n=2", arrays("#[3: 5 6 7]", "#[: 1]", "#b[1: 0]"), "shape"},
		{program("n", "", []string{"[n]int"}, []int{1}, in("append v0 v0")), "n=4096", arrays(long), "limit"}, {program("n", "", []string{"[n]int"}, []int{1}, in("fill v0@0|n|n")), "n=4096", arrays(long), "limit"}, {program("n", "", []string{"[n]int"}, []int{1}, in("take v0||1")), "n=2", nil, "code"}, {program("n", "n", []string{"[n]int"}, []int{1}, in("iota |n n|0")), "n=4096", arrays(long), "limit"}, {program("n", "1000000n", []string{"[n]int"}, []int{1}, in("size ||1000000n")), "n=2147", nil, "arg"}, {program("n", "", nil, []int{0}, in("size ||1000000n")), "n=2147", nil, "#[: 2147000000] []"}, {program("n", "", nil, []int{0}, in("size ||1000000n")), "n=2148", nil, "range"}, {program("n", "", nil, []int{0, 0}, in("size |n|n")), "n=2", nil, "#[2: 2 2] #[2: 2 2] []"},
	} {
		if got := outcome(flat.Run(c.f, dims(c.dims), c.inputs)); got != c.want {
			t.Errorf("%d: %s", i, got)
		}
	}
	in0 := arrays("#[3: 5 6 7]", "#[: 1]", "#b[1: 0]")
	out, _, _ := flat.Run(good(), dims("m=1 n=3"), in0)
	if out[1].Data[0] = 99; in0[0].Data[0] != 5 {
		t.Error("memory is shared")
	}
}

func TestPrint(t *testing.T) { // P38.1
	f := program("m n", "", []string{"[n]int", "int", "[n, m]bool"}, []int{3, 0}, in("add v0@0 v1|n"), in("not v2@0.1|n m"))
	got, e := flat.Print(f)
	want := []string{"v0: [n]int", "v1: int", "v2: [n, m]bool", "v3: [n]int = add(v0@0, v1)", "v4: [n, m]bool = not(v2@0.1)", "result v3, v0"}
	if !slices.Equal(got, want) || e != api.OK {
		t.Errorf("%q %d", got, e)
	}
	for i, change := range []func(f *api.Flat){
		func(f *api.Flat) { f.Vars[0] = "k" }, func(f *api.Flat) { f.Where = lins("n") }, func(f *api.Flat) { f.Inputs[0].Elem = "bool" }, func(f *api.Flat) { f.Results = nil }, func(f *api.Flat) { f.Code = nil }, func(f *api.Flat) { f.Code[0].Op = "x" }, func(f *api.Flat) { f.Code[0].Args[0] = 1 }, func(f *api.Flat) { f.Code[0].Frame = nil }, func(f *api.Flat) { f.Code[0].Axes[0] = nil }, func(f *api.Flat) { f.Code[0].Sizes = lins("n") }, func(f *api.Flat) { f.Code[0].Num = 1 }, func(f *api.Flat) { f.Code[0].Array.Elem = "int" }, func(f *api.Flat) { f.Code[0].Fun = prim("add") }, func(f *api.Flat) { f.Code[0].Check = 1 }, func(f *api.Flat) { f.Code[0].Type.Elem = "bool" },
	} {
		g := clone.Flat(f)
		if change(&g); flat.Equal(f, g) {
			t.Errorf("%d", i)
		}
	}
	if !flat.Equal(api.Flat{Code: []api.Instr{}, Vars: []string{}}, api.Flat{}) || !flat.Equal(f, clone.Flat(f)) {
		t.Error("Equal")
	}
}

func TestRandom(t *testing.T) { // P38.2, P38.3, P38.4, P38.5, P38.6
	d := sample.NewDice(1)
	for range 1000 {
		f := sample.Flat(d, 6)
		if at, e := flat.Valid(f); e != api.OK {
			t.Fatalf("%d %d", at, e)
		}
		values := sample.Dims(d, 3)
		inputs := sample.Inputs(d, f.Inputs, values)
		results, violated, e := flat.Run(f, values, inputs)
		want := outcome(results, violated, e)
		if e != api.OK {
			continue // a condition does not hold, or an array is too great
		}
		g, e := flat.Ground(f, values)
		if _, h := flat.Valid(g); e != api.OK || h != api.OK || len(g.Vars) > 0 || len(g.Where) > 0 {
			t.Fatalf("%d %d", e, h)
		}
		if got := outcome(flat.Run(g, nil, inputs)); got != want {
			t.Fatalf("%s, not %s", got, want)
		}
		more := clone.Flat(f)
		last := in("neg v2")
		last.Type = typ("int")
		more.Code = append(more.Code, last)
		if got := outcome(flat.Run(more, values, inputs)); got != want {
			t.Fatalf("%s, not %s", got, want)
		}
		all := flat.Types(f)
		elements, work := 0, 0
		for k := range f.Code {
			fewer := clone.Flat(f)
			fewer.Code = fewer.Code[:k+1]
			fewer.Results = []int{len(f.Inputs) + k}
			a, _, e := flat.Run(fewer, values, inputs)
			ty := all[len(f.Inputs)+k]
			for j, d := range ty.Shape.Dims {
				if v, _ := linear.Eval(d, values); v != a[0].Dims[j] {
					t.Fatalf("%v", a)
				}
			}
			if e != api.OK || a[0].Elem != ty.Elem {
				t.Fatalf("%v %d", a, e)
			}
			elements += len(a[0].Data)
			work += len(a[0].Data)
			if f.Code[k].Op == "fold" {
				list := all[f.Code[k].Args[1]].Shape.Dims
				d, _ := linear.Eval(list[len(list)-1], values)
				work += len(a[0].Data) * d
			}
		}
		p, e := flat.Work(f)
		if got, _ := poly.Eval(p, values); got != work || got < elements || e != api.OK {
			t.Fatalf("%d, not %d", got, work)
		}
	}
	great := program("n", "", []string{"[n]int"}, []int{0}, in("iota |1000000 1000000 1000000|n"))
	if _, e := flat.Work(great); e != api.ErrLimit {
		t.Errorf("%d", e)
	}
}
