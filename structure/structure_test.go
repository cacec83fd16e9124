package structure_test

import (
	"math"
	"math/rand"
	"slices"
	"testing"

	"framewise/api"
	"framewise/array"
	"framewise/structure"
)

func parse(s string) api.Array {
	a, e := array.Parse(s)
	if e != api.OK {
		panic(s)
	}
	return a
}

func list(data ...int) api.Array {
	return api.Array{Elem: "int", Dims: []int{len(data)}, Data: data}
}

func TestApply(t *testing.T) { // P21.1
	for i, c := range []struct {
		op       string
		sizes    []int
		num      int
		cells    []string
		want     string
		violated bool
		e        api.Errno
	}{
		{"iota", []int{3}, 0, nil, "#[3: 0 1 2]", false, 0},
		{"iota", []int{0}, 0, nil, "#[0:]", false, 0},
		{"iota", []int{-1}, 0, nil, "", false, api.ErrRange},
		{"iota", []int{4097}, 0, nil, "", false, api.ErrRange},
		{"iota", nil, 0, nil, "", false, api.ErrArg},
		{"fill", []int{3}, 0, []string{"#b[: 1]"}, "#b[3: 1 1 1]", false, 0},
		{"fill", []int{-1}, 0, []string{"#b[: 1]"}, "", false, api.ErrRange},
		{"fill", []int{3}, 0, []string{"#[1: 1]"}, "", false, api.ErrRank},
		{"take", []int{2}, 0, []string{"#[3: 5 6 7]"}, "#[2: 5 6]", false, 0},
		{"take", []int{4}, 0, []string{"#[3: 5 6 7]"}, "", false, api.ErrRange},
		{"take", []int{-1}, 0, []string{"#[3: 5 6 7]"}, "", false, api.ErrRange},
		{"drop", []int{2}, 0, []string{"#[3: 5 6 7]"}, "#[1: 7]", false, 0},
		{"drop", []int{3}, 0, []string{"#[3: 5 6 7]"}, "#[0:]", false, 0},
		{"drop", []int{math.MinInt}, 0, []string{"#[3: 5 6 7]"}, "", false, api.ErrRange},
		{"reverse", nil, 0, []string{"#[3: 5 6 7]"}, "#[3: 7 6 5]", false, 0},
		{"reverse", []int{1}, 0, []string{"#[3: 5 6 7]"}, "", false, api.ErrArg},
		{"reverse", nil, 1, []string{"#[3: 5 6 7]"}, "", false, api.ErrArg},
		{"append", nil, 0, []string{"#[2: 5 6]", "#[1: 7]"}, "#[3: 5 6 7]", false, 0},
		{"append", nil, 0, []string{"#[2: 5 6]", "#b[1: 1]"}, "", false, api.ErrType},
		{"append", nil, 0, []string{"#[2: 5 6]", "#b[: 1]"}, "", false, api.ErrType},
		{"transpose", nil, 0, []string{"#[2 3: 1 2 3 4 5 6]"}, "#[3 2: 1 4 2 5 3 6]", false, 0},
		{"transpose", nil, 0, []string{"#[2: 1 2]"}, "", false, api.ErrRank},
		{"diagonal", nil, 0, []string{"#[2 2: 1 2 3 4]"}, "#[2: 1 4]", false, 0},
		{"diagonal", nil, 0, []string{"#[1 2: 1 2]"}, "", false, api.ErrShape},
		{"windows", []int{2}, 0, []string{"#[3: 5 6 7]"}, "#[2 2: 5 6 6 7]", false, 0},
		{"windows", []int{0}, 0, []string{"#[1: 5]"}, "#[2 0:]", false, 0},
		{"windows", []int{4}, 0, []string{"#[3: 5 6 7]"}, "", false, api.ErrRange},
		{"chunk", nil, 2, []string{"#[4: 5 6 7 8]"}, "#[2 2: 5 6 7 8]", false, 0},
		{"chunk", nil, 3, []string{"#[4: 5 6 7 8]"}, "", false, api.ErrShape},
		{"chunk", nil, 0, []string{"#[4: 5 6 7 8]"}, "", false, api.ErrRange},
		{"chunk", nil, 65, []string{"#[0:]"}, "", false, api.ErrRange},
		{"index", nil, 0, []string{"#[3: 5 6 7]", "#[: 2]"}, "#[: 7]", false, 0},
		{"index", nil, 0, []string{"#[3: 5 6 7]", "#[: 3]"}, "#[: 0]", true, 0},
		{"index", nil, 0, []string{"#b[3: 1 1 1]", "#[: -1]"}, "#b[: 0]", true, 0},
		{"index", nil, 0, []string{"#[3: 5 6 7]", "#b[: 1]"}, "", false, api.ErrType},
		{"index", nil, 0, []string{"#[0:]", "#[: 0]"}, "#[: 0]", true, 0},
		{"update", nil, 0, []string{"#[3: 5 6 7]", "#[: 1]", "#[: 9]"}, "#[3: 5 9 7]", false, 0},
		{"update", nil, 0, []string{"#[3: 5 6 7]", "#[: 3]", "#[: 9]"}, "#[3: 5 6 7]", true, 0},
		{"update", nil, 0, []string{"#b[1: 0]", "#[: 0]", "#b[: 1]"}, "#b[1: 1]", false, 0},
		{"update", nil, 0, []string{"#b[1: 0]", "#[: 0]", "#[: 1]"}, "", false, api.ErrType},
		{"pack", nil, 0, []string{"#[: 4]", "#[: 5]"}, "#[2: 4 5]", false, 0},
		{"pack", nil, 0, nil, "", false, api.ErrArg},
		{"pack", nil, 0, []string{"#[: 4]", "#[1: 5]"}, "", false, api.ErrRank},
		{"pack", []int{2}, 0, []string{"#[: 4]", "#[: 5]"}, "", false, api.ErrArg},
		{"add", nil, 0, []string{"#[: 4]", "#[: 5]"}, "", false, api.ErrName},
		{"", nil, 5, nil, "", false, api.ErrName},
	} {
		var cells []api.Array
		var dims [][]int
		var elems []string
		for _, s := range c.cells {
			a := parse(s)
			cells, dims, elems = append(cells, a), append(dims, a.Dims), append(elems, a.Elem)
		}
		a, violated, e := structure.Apply(c.op, c.sizes, c.num, cells)
		text, _ := array.Print(a)
		if text != c.want || violated != c.violated || e != c.e {
			t.Errorf("%d: %s %v %d", i, text, violated, e)
		}
		d, f := structure.Dims(c.op, c.sizes, c.num, dims)
		r, ok := structure.Result(c.op, elems)
		if e == api.OK && (!slices.Equal(d, a.Dims) || f != api.OK || r != a.Elem || !ok) || e != api.OK && e != api.ErrType && f != e {
			t.Errorf("%d: %v %d %s", i, d, f, r)
		}
	}
	if _, _, e := structure.Apply("reverse", nil, 0, []api.Array{{Elem: "int", Dims: []int{1, 1}, Data: []int{1 << 40}}}); e != api.ErrArg {
		t.Error("an array that is not valid")
	}
	if _, e := structure.Dims("append", nil, 0, [][]int{{4096}, {1}}); e != api.ErrRange {
		t.Error("a list that is too long")
	}
	if _, e := structure.Dims("append", nil, 0, [][]int{{4097}, {}}); e != api.ErrRank {
		t.Error("ranks come first")
	}
	if _, e := structure.Dims("windows", []int{9999}, 0, [][]int{{4097}}); e != api.ErrRange {
		t.Error("dimensions of arguments")
	}
	if _, e := structure.Dims("windows", []int{64}, 0, [][]int{{4096}}); e != api.ErrLimit {
		t.Error("too many elements")
	}
	if _, e := structure.Dims("pack", nil, 0, make([][]int, 4097)); e != api.ErrRange {
		t.Error("too many arguments")
	}
}

func TestTable(t *testing.T) { // P21.1
	if l := structure.Ops(); len(l) != 13 || l[0] != "iota" || l[12] != "pack" || !structure.Is("chunk") || structure.Is("add") || structure.Is("") {
		t.Error("Ops")
	}
	for op, want := range map[string][]int{"iota": nil, "fill": {0}, "take": {1}, "drop": {1}, "reverse": {1}, "append": {1, 1}, "transpose": {2}, "diagonal": {2}, "windows": {1}, "chunk": {1}, "index": {1, 0}, "update": {1, 0, 0}, "pack": {0, 0, 0}} {
		if r, ok := structure.Ranks(op, len(want)); !slices.Equal(r, want) || !ok {
			t.Errorf("Ranks of %s: %v", op, r)
		}
		if r, ok := structure.Ranks(op, 7); op != "pack" && (r != nil || ok) {
			t.Errorf("Ranks of %s: %v", op, r)
		}
	}
	for _, n := range []int{0, -1, math.MaxInt, math.MinInt} {
		if _, ok := structure.Ranks("pack", n); ok {
			t.Errorf("pack of %d", n)
		}
	}
	for i, c := range []struct {
		op    string
		elems []string
		want  string
	}{
		{"fill", []string{"A"}, ""}, {"fill", nil, ""}, {"pack", []string{"int", "bool"}, ""}, {"pack", []string{"bool", "bool"}, "bool"}, {"index", []string{"bool", "int"}, "bool"}, {"index", []string{"bool", "bool"}, ""}, {"update", []string{"bool", "int", "int"}, ""}, {"iota", []string{"int"}, ""}, {"iota", nil, "int"}, {"add", []string{"int", "int"}, ""},
	} {
		if r, ok := structure.Result(c.op, c.elems); r != c.want || ok != (c.want != "") {
			t.Errorf("%d: %q", i, r)
		}
	}
}

func do(op string, sizes []int, num int, cells ...api.Array) api.Array {
	a, _, e := structure.Apply(op, sizes, num, cells)
	if e != api.OK {
		panic(op)
	}
	return a
}

func random(r *rand.Rand, dims ...int) api.Array {
	n, _ := array.Size(dims)
	a := api.Array{Elem: "int", Dims: dims}
	for range n {
		a.Data = append(a.Data, r.Intn(1000)-500)
	}
	return a
}

func TestLists(t *testing.T) { // P21.2, P21.4
	r := rand.New(rand.NewSource(1))
	for i := 0; i < 300; i++ {
		a, b, c := random(r, r.Intn(7)), random(r, r.Intn(7)), random(r, r.Intn(7))
		if !array.Equal(do("append", nil, 0, do("append", nil, 0, a, b), c), do("append", nil, 0, a, do("append", nil, 0, b, c))) {
			t.Fatal("append")
		}
		n := len(a.Data)
		k := r.Intn(n + 1)
		size := []int{k}
		if !array.Equal(do("append", nil, 0, do("take", size, 0, a), do("drop", size, 0, a)), a) {
			t.Fatal("take and drop")
		}
		back := do("reverse", nil, 0, do("append", nil, 0, a, b))
		if !array.Equal(do("reverse", nil, 0, do("reverse", nil, 0, a)), a) || !array.Equal(back, do("append", nil, 0, do("reverse", nil, 0, b), do("reverse", nil, 0, a))) {
			t.Fatal("reverse")
		}
		w := do("windows", size, 0, a)
		for x := 0; x < n-k+1; x++ {
			if row := do("take", size, 0, do("drop", []int{x}, 0, a)); !slices.Equal(row.Data, w.Data[x*k:x*k+k]) {
				t.Fatal("windows")
			}
		}
		if n > 0 {
			x, v := r.Intn(n), list(77)
			v.Dims = nil
			at := api.Array{Elem: "int", Data: []int{x}}
			u := do("update", nil, 0, a, at, v)
			for y := 0; y < n; y++ {
				got := do("index", nil, 0, u, api.Array{Elem: "int", Data: []int{y}})
				if y == x && got.Data[0] != 77 || y != x && got.Data[0] != a.Data[y] {
					t.Fatal("update")
				}
			}
			if do("index", nil, 0, do("iota", []int{n}, 0), at).Data[0] != x || do("index", nil, 0, do("fill", []int{n}, 0, v), at).Data[0] != 77 {
				t.Fatal("iota and fill")
			}
		}
	}
}

func TestMatrices(t *testing.T) { // P21.3, P21.5
	r := rand.New(rand.NewSource(2))
	neg := func(a api.Array) api.Array {
		b := api.Array{Elem: a.Elem, Dims: a.Dims}
		for _, n := range a.Data {
			b.Data = append(b.Data, -n)
		}
		return b
	}
	for i := 0; i < 100; i++ {
		m, q, l := random(r, r.Intn(5), r.Intn(5)), random(r, i%5, i%5), random(r, 6)
		if !array.Equal(do("transpose", nil, 0, do("transpose", nil, 0, m)), m) || !array.Equal(do("diagonal", nil, 0, q), do("diagonal", nil, 0, do("transpose", nil, 0, q))) {
			t.Fatal("transpose")
		}
		at, v := api.Array{Elem: "int", Data: []int{r.Intn(7)}}, api.Array{Elem: "int", Data: []int{5}}
		for _, f := range []func(api.Array, api.Array) api.Array{
			func(l, v api.Array) api.Array { return do("reverse", nil, 0, l) },
			func(l, v api.Array) api.Array { return do("take", []int{2}, 0, l) },
			func(l, v api.Array) api.Array { return do("drop", []int{2}, 0, l) },
			func(l, v api.Array) api.Array { return do("windows", []int{2}, 0, l) },
			func(l, v api.Array) api.Array { return do("chunk", nil, 3, l) },
			func(l, v api.Array) api.Array { return do("append", nil, 0, l, l) },
			func(l, v api.Array) api.Array { return do("index", nil, 0, l, at) },
			func(l, v api.Array) api.Array { return do("update", nil, 0, l, at, v) },
			func(l, v api.Array) api.Array { return do("pack", nil, 0, v, v) },
			func(l, v api.Array) api.Array { return do("fill", []int{4}, 0, v) },
		} {
			if !array.Equal(f(neg(l), neg(v)), neg(f(l, v))) {
				t.Fatal("renaming elements")
			}
		}
		if !array.Equal(do("transpose", nil, 0, neg(m)), neg(do("transpose", nil, 0, m))) {
			t.Fatal("renaming elements")
		}
	}
}
