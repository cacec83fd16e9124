package reduce_test

import (
	"math/rand"
	"slices"
	"testing"

	"framewise/api"
	"framewise/array"
	"framewise/cells"
	"framewise/element"
	"framewise/reduce"
)

func parse(s string) api.Array {
	a, e := array.Parse(s)
	if e != api.OK {
		panic(s)
	}
	return a
}

func text(a api.Array) string {
	s, _ := array.Print(a)
	return s
}

func prim(op string) []api.Step {
	code, ok := reduce.Prim(op)
	if !ok {
		panic(op)
	}
	return code
}

func step(op string, num int, args ...int) api.Step { return api.Step{Op: op, Num: num, Args: args} }

func TestCode(t *testing.T) { // P22.1
	for i, c := range []struct {
		code  []api.Step
		types []string
		valid bool
		typ   string
	}{
		{nil, []string{"int", "bool"}, true, "bool"},
		{nil, nil, false, ""},
		{[]api.Step{step("const", 5)}, nil, true, "int"},
		{[]api.Step{step("truth", 1)}, nil, true, "bool"},
		{[]api.Step{step("truth", 2)}, nil, false, ""},
		{[]api.Step{step("const", 1<<31)}, nil, false, ""},
		{[]api.Step{step("const", 5, 0)}, []string{"int"}, false, ""},
		{[]api.Step{step("add", 0, 0, 1)}, []string{"int", "int"}, true, "int"},
		{[]api.Step{step("add", 0, 0, 1)}, []string{"int", "bool"}, true, ""},
		{[]api.Step{step("add", 1, 0, 1)}, []string{"int", "int"}, false, ""},
		{[]api.Step{step("add", 0, 0)}, []string{"int", "int"}, false, ""},
		{[]api.Step{step("add", 0, 0, 2)}, []string{"int", "int"}, false, ""},
		{[]api.Step{step("add", 0, 0, -1)}, []string{"int", "int"}, false, ""},
		{[]api.Step{step("add", 0, 0, 0), step("lt", 0, 1, 0), step("select", 0, 2, 0, 1)}, []string{"int"}, true, "int"},
		{[]api.Step{step("eq", 0, 0, 1)}, []string{"bool", "bool"}, true, "bool"},
		{[]api.Step{step("iota", 0)}, []string{"int"}, false, ""},
		{[]api.Step{step("", 0)}, []string{"int"}, false, ""},
		{slices.Repeat([]api.Step{step("const", 5)}, 60), nil, true, "int"},
		{slices.Repeat([]api.Step{step("const", 5)}, 61), nil, false, ""},
		{nil, slices.Repeat([]string{"int"}, 20), true, "int"},
		{nil, slices.Repeat([]string{"int"}, 21), false, ""},
		{nil, []string{"A"}, true, ""},
	} {
		typ, ok := reduce.Type(c.code, c.types)
		if reduce.Valid(c.code, len(c.types)) != c.valid || typ != c.typ || ok != (c.typ != "") {
			t.Errorf("%d: %q %v", i, typ, ok)
		}
	}
	if reduce.Valid(nil, -1) {
		t.Error("fewer than no arguments")
	}
	code := []api.Step{step("const", 10), step("mul", 0, 0, 2), step("add", 0, 3, 1)}
	if n, ok := reduce.Run(code, []int{4, 2}); n != 42 || !ok {
		t.Error("Run")
	}
	for i, c := range []struct {
		code []api.Step
		args []int
	}{
		{code, []int{4}}, {code[:0], nil}, {code, []int{1 << 31, 0}}, {prim("and"), []int{1, 2}}, {[]api.Step{step("add", 0, 0)}, []int{1}},
	} {
		if n, ok := reduce.Run(c.code, c.args); n != 0 || ok {
			t.Errorf("%d: %d", i, n)
		}
	}
	if code, ok := reduce.Prim("iota"); code != nil || ok {
		t.Error("Prim")
	}
}

func TestPrims(t *testing.T) { // P22.4
	r := rand.New(rand.NewSource(1))
	for _, op := range element.Ops() {
		params, _, _ := element.Types(op)
		for range 50 {
			args, types := make([]int, len(params)), slices.Clone(params)
			for i, p := range params {
				args[i] = r.Intn(2)
				if p == "A" {
					types[i] = "bool"
				} else if p == "int" {
					args[i] = r.Intn(100) - 50
				}
			}
			want, _ := element.Apply(op, args)
			n, ok := reduce.Run(prim(op), args)
			typ, fits := reduce.Type(prim(op), types)
			if n != want || !ok || !fits || !element.Valid(typ, n) {
				t.Fatalf("%s of %v: %d", op, args, n)
			}
		}
	}
	// Code whose types fit has a value for all arguments.
	for i := 0; i < 20000; i++ {
		types := []string{[]string{"int", "bool"}[r.Intn(2)], []string{"int", "bool"}[r.Intn(2)]}
		var code []api.Step
		for j := 0; j < 4; j++ {
			op := element.Ops()[r.Intn(22)]
			params, _, _ := element.Types(op)
			s := step(op, 0)
			for range params {
				s.Args = append(s.Args, r.Intn(2+j))
			}
			code = append(code, s)
		}
		typ, ok := reduce.Type(code, types)
		if !ok {
			continue
		}
		args := []int{r.Intn(2), r.Intn(2)}
		if n, ok := reduce.Run(code, args); !ok || !element.Valid(typ, n) {
			t.Fatalf("%v of %v: %d", code, args, n)
		}
	}
}

func TestFold(t *testing.T) { // P22.1, P22.2, P22.3
	for i, c := range []struct {
		code    []api.Step
		init, x string
		want    string
		e       api.Errno
	}{
		{prim("sub"), "#[: 10]", "#[3: 1 2 3]", "#[: 4]", 0}, {prim("sub"), "#[: 10]", "#[0:]", "#[: 10]", 0}, {prim("sub"), "#[1: 10]", "#[0:]", "", api.ErrRank}, {prim("sub"), "#[: 10]", "#[: 1]", "", api.ErrRank}, {prim("sub"), "#[: 10]", "#b[1: 1]", "", api.ErrType}, {prim("lt"), "#[: 10]", "#[1: 1]", "", api.ErrType}, {prim("eq"), "#b[: 1]", "#b[2: 0 0]", "#b[: 1]", 0}, {prim("not"), "#b[: 1]", "#b[2: 0 0]", "#b[: 1]", 0}, {[]api.Step{step("add", 0, 0, 2)}, "#[1: 10]", "#[: 1]", "", api.ErrArg},
		{nil, "#[: 10]", "#[3: 1 2 3]", "#[: 3]", 0}, {[]api.Step{step("lt", 0, 1, 1), step("or", 0, 0, 2)}, "#b[: 1]", "#[2: 5 6]", "#b[: 1]", 0},
	} {
		a, e := reduce.Fold(c.code, parse(c.init), parse(c.x))
		if text(a) != c.want || e != c.e {
			t.Errorf("%d: %s %d", i, text(a), e)
		}
	}
	if _, e := reduce.Fold(prim("add"), api.Array{}, parse("#[: 1]")); e != api.ErrArg {
		t.Error("Fold with an array that is not valid")
	}
	for i, c := range []struct {
		code []api.Step
		x    string
		want string
		e    api.Errno
	}{
		{prim("add"), "#[3: 1 2 3]", "#[3: 1 3 6]", 0}, {prim("add"), "#[0:]", "#[0:]", 0}, {prim("add"), "#[: 3]", "", api.ErrRank}, {prim("add"), "#b[1: 1]", "", api.ErrType}, {prim("lt"), "#[1: 1]", "", api.ErrType}, {prim("xor"), "#b[3: 1 1 1]", "#b[3: 1 0 1]", 0}, {prim("select"), "#b[: 1]", "", api.ErrArg},
	} {
		a, e := reduce.Scan(c.code, parse(c.x))
		if text(a) != c.want || e != c.e {
			t.Errorf("%d: %s %d", i, text(a), e)
		}
	}
	r := rand.New(rand.NewSource(2))
	for i := 0; i < 300; i++ {
		n := 1 + r.Intn(8)
		x := api.Array{Elem: "int", Dims: []int{n}}
		for range n {
			x.Data = append(x.Data, r.Intn(200)-100)
		}
		code := prim([]string{"sub", "div", "max", "mul"}[r.Intn(4)])
		k := r.Intn(n + 1)
		a, b := api.Array{Elem: "int", Dims: []int{k}, Data: x.Data[:k]}, api.Array{Elem: "int", Dims: []int{n - k}, Data: x.Data[k:]}
		init := api.Array{Elem: "int", Data: []int{50}}
		whole, _ := reduce.Fold(code, init, x)
		part, _ := reduce.Fold(code, init, a)
		if rest, _ := reduce.Fold(code, part, b); !array.Equal(whole, rest) {
			t.Fatalf("%v at %d", x, k)
		}
		scan, _ := reduce.Scan(code, x)
		for j := 0; j < n; j++ {
			f, _ := reduce.Fold(code, api.Array{Elem: "int", Data: x.Data[:1]}, api.Array{Elem: "int", Dims: []int{j}, Data: x.Data[1 : j+1]})
			if f.Data[0] != scan.Data[j] || !slices.Equal(scan.Dims, x.Dims) {
				t.Fatalf("%v: %v", x, scan)
			}
		}
	}
}

func TestInstr(t *testing.T) { // P22.1
	in := func(op string, axes ...[]int) api.Instr { return api.Instr{Op: op, Axes: axes} }
	with := func(i api.Instr, f func(*api.Instr)) api.Instr { f(&i); return i }
	five := with(in("const"), func(i *api.Instr) { i.Array = parse("#[2: 5 6]") })
	fold := with(in("fold", nil, []int{0}), func(i *api.Instr) { i.Fun = prim("add") })
	for i, c := range []struct {
		in           api.Instr
		frame, sizes []int
		args         []string
		want         string
		violated     bool
		e            api.Errno
	}{
		{in("add", []int{0}, []int{1}), []int{2, 3}, nil, []string{"#[2: 10 20]", "#[3: 1 2 3]"}, "#[2 3: 11 12 13 21 22 23]", false, 0},
		{in("add", nil, nil), nil, nil, []string{"#[: 10]", "#[: 1]"}, "#[: 11]", false, 0},
		{in("add", nil, nil), nil, nil, []string{"#[: 10]", "#b[: 1]"}, "", false, api.ErrType},
		{in("add", []int{0}, nil), []int{0}, nil, []string{"#[0:]", "#b[: 1]"}, "", false, api.ErrType},
		{in("lt", []int{0}, nil), []int{0}, nil, []string{"#[0:]", "#[: 1]"}, "#b[0:]", false, 0},
		{in("add", nil), nil, nil, []string{"#[: 10]"}, "", false, api.ErrArg},
		{in("add", nil, nil), nil, []int{1}, []string{"#[: 10]", "#[: 1]"}, "", false, api.ErrArg},
		{with(in("add", nil, nil), func(i *api.Instr) { i.Num = 1 }), nil, nil, []string{"#[: 10]", "#[: 1]"}, "", false, api.ErrArg},
		{in("add", nil), nil, nil, []string{"#[: 10]", "#[: 1]"}, "", false, api.ErrArg},
		{in("plus", nil), nil, nil, nil, "", false, api.ErrName},
		{in("add", []int{0}, nil), []int{2}, nil, []string{"#[3: 1 2 3]", "#[: 1]"}, "", false, api.ErrShape},
		{in("add", []int{0}, nil), []int{2}, nil, []string{"#[: 1]", "#[: 1]"}, "", false, api.ErrRank},
		{in("add", []int{0}, nil), []int{4096, 2}, nil, []string{"#[: 1]", "#[: 1]"}, "", false, api.ErrLimit},
		{five, nil, nil, nil, "#[2: 5 6]", false, 0},
		{five, []int{2}, nil, nil, "#[2 2: 5 6 5 6]", false, 0},
		{five, []int{0}, nil, nil, "#[0 2:]", false, 0},
		{five, []int{4096}, nil, nil, "", false, api.ErrLimit},
		{five, nil, []int{1}, nil, "", false, api.ErrArg},
		{in("const"), nil, nil, nil, "", false, api.ErrArg},
		{in("size"), []int{2}, []int{7}, nil, "#[2: 7 7]", false, 0},
		{in("size"), nil, []int{1 << 31}, nil, "", false, api.ErrRange},
		{in("size"), nil, nil, nil, "", false, api.ErrArg},
		{fold, []int{2}, nil, []string{"#[: 10]", "#[2 2: 1 2 3 4]"}, "#[2: 13 17]", false, 0},
		{fold, []int{0}, nil, []string{"#[: 10]", "#[0 4096:]"}, "#[0:]", false, 0},
		{with(fold, func(i *api.Instr) { i.Fun = prim("lt") }), []int{2}, nil, []string{"#[: 10]", "#[2 2: 1 2 3 4]"}, "", false, api.ErrType},
		{with(in("scan", []int{0}), func(i *api.Instr) { i.Fun = prim("add") }), []int{2}, nil, []string{"#[2 2: 1 2 3 4]"}, "#[2 2: 1 3 3 7]", false, 0},
		{in("index", []int{0}, []int{0}), []int{2}, nil, []string{"#[2 2: 1 2 3 4]", "#[2: 1 0]"}, "#[2: 2 3]", false, 0},
		{in("index", []int{0}, []int{0}), []int{2}, nil, []string{"#[2 2: 1 2 3 4]", "#[2: 1 2]"}, "#[2: 2 0]", true, 0},
		{in("index", []int{0}, nil), []int{0}, nil, []string{"#[0 2:]", "#[: 5]"}, "#[0:]", false, 0},
		{in("take", []int{0}), []int{2}, []int{1}, []string{"#[2 2: 1 2 3 4]"}, "#[2 1: 1 3]", false, 0},
		{in("take", []int{0}), []int{2}, []int{3}, []string{"#[2 2: 1 2 3 4]"}, "", false, api.ErrRange},
		{in("take", []int{0}), []int{2}, nil, []string{"#[2 2: 1 2 3 4]"}, "", false, api.ErrArg},
		{in("transpose", []int{0}), []int{0}, nil, []string{"#[0 4096 4096:]"}, "", false, api.ErrLimit},
		{in("iota"), []int{2}, []int{2}, nil, "#[2 2: 0 1 0 1]", false, 0},
		{in("iota"), []int{1, 1, 1, 1, 1, 1}, []int{2}, nil, "", false, api.ErrRank},
		{with(in("chunk", nil), func(i *api.Instr) { i.Num = 2 }), nil, nil, []string{"#[2: 1 2]"}, "#[1 2: 1 2]", false, 0},
	} {
		var args []api.Array
		for _, s := range c.args {
			args = append(args, parse(s))
		}
		a, violated, e := reduce.Instr(c.in, c.frame, c.sizes, args)
		if text(a) != c.want || violated != c.violated || e != c.e {
			t.Errorf("%d: %s %v %d", i, text(a), violated, e)
		}
	}
	for op, want := range map[string][]int{"add": {0, 0}, "select": {0, 0, 0}, "fold": {0, 1}, "scan": {1}, "const": nil, "size": nil, "append": {1, 1}, "pack": {0}} {
		if r, ok := reduce.Ranks(op, len(want)); !slices.Equal(r, want) || !ok {
			t.Errorf("Ranks of %s: %v", op, r)
		}
		if r, ok := reduce.Ranks(op, 9); op != "pack" && (r != nil || ok) {
			t.Errorf("Ranks of %s: %v", op, r)
		}
	}
	if _, ok := reduce.Ranks("plus", 0); ok {
		t.Error("Ranks of nothing")
	}
}

func TestLifting(t *testing.T) { // P22.5
	r := rand.New(rand.NewSource(3))
	for i := 0; i < 300; i++ {
		frame := []int{1 + r.Intn(3), 1 + r.Intn(3)}
		axes := [][]int{{0, 1}, [][]int{nil, {0}, {1}, {0, 1}}[r.Intn(4)]}
		op := []string{"append", "index", "sub"}[r.Intn(3)]
		ranks, _ := reduce.Ranks(op, 2)
		var args []api.Array
		for j := range axes {
			dims, _ := cells.Pick(frame, axes[j])
			if ranks[j] > 0 {
				dims = append(dims, 3)
			}
			n, _ := array.Size(dims)
			a := api.Array{Elem: "int", Dims: dims}
			for range n {
				a.Data = append(a.Data, r.Intn(6)-1)
			}
			args = append(args, a)
		}
		out, violated, e := reduce.Instr(api.Instr{Op: op, Axes: axes}, frame, nil, args)
		if e != api.OK {
			t.Fatalf("%s: %d", op, e)
		}
		indices, _ := cells.Indices(frame)
		isAny := false
		for _, index := range indices {
			var own []api.Array
			for j := range axes {
				at, _ := cells.Pick(index, axes[j])
				c, _ := cells.Cell(args[j], ranks[j], at)
				own = append(own, c)
			}
			want, isOutside, _ := reduce.Instr(api.Instr{Op: op, Axes: [][]int{nil, nil}}, nil, nil, own)
			isAny = isAny || isOutside
			if got, _ := cells.Cell(out, len(out.Dims)-2, index); !array.Equal(got, want) {
				t.Fatalf("%s at %v: %v, not %v", op, index, got, want)
			}
		}
		if isAny != violated {
			t.Fatalf("%s: %v", op, violated)
		}
	}
}
