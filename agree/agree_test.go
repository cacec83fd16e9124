package agree_test

import (
	"math/rand"
	"slices"
	"testing"

	"framewise/agree"
	"framewise/api"
	"framewise/linear"
	"framewise/shape"
	"framewise/types"
	"framewise/unify"
)

func typ(s string) api.Type {
	t, e := types.Parse(s)
	if e != api.OK {
		panic(s)
	}
	return t
}

func typs(l []string) []api.Type {
	var out []api.Type
	for _, s := range l {
		out = append(out, typ(s))
	}
	return out
}

// app makes an application of cells and args.
func app(cells, args []string, outCell, out string) api.Constraint {
	return api.Constraint{Kind: api.ConsAgree, Cells: typs(cells), Args: typs(args), OutCell: typ(outCell), Out: typ(out)}
}

func sh(s string) api.Shape {
	x, e := shape.Parse(s)
	if e != api.OK {
		panic(s)
	}
	return x
}

func show(s api.Shape) string {
	text, _ := shape.Print(s)
	return text
}

var two = []string{"int", "int"}

func TestValid(t *testing.T) { // P14.1
	change := func(f func(*api.Constraint)) api.Constraint {
		c := app(two, []string{"[n]int", "int"}, "int", "[n]int")
		f(&c)
		return c
	}
	for i, c := range []struct {
		c            api.Constraint
		valid, known bool
	}{
		{change(func(*api.Constraint) {}), true, true},
		{change(func(c *api.Constraint) { c.Line = -5; c.L = linear.Var("N"); c.A.Elem = "x" }), true, true},
		{change(func(c *api.Constraint) { c.Args[1] = typ("[r..]int") }), true, false},
		{change(func(c *api.Constraint) { c.Out = typ("[r..]int") }), true, true},
		{change(func(c *api.Constraint) { c.Kind = api.ConsSame }), false, false},
		{change(func(c *api.Constraint) { c.Cells = c.Cells[:1] }), false, false},
		{change(func(c *api.Constraint) { c.Cells[0] = typ("[r..]int") }), false, false},
		{change(func(c *api.Constraint) { c.OutCell = typ("[r..]int") }), false, false},
		{change(func(c *api.Constraint) { c.OutCell = api.Type{} }), false, false},
		{change(func(c *api.Constraint) { c.Args[0].Elem = "x" }), false, false},
		{change(func(c *api.Constraint) { c.Out = api.Type{} }), false, false},
		{app(slices.Repeat(two, 8), slices.Repeat(two, 8), "int", "int"), true, true},
		{app(slices.Repeat(two, 9), slices.Repeat(two, 9), "int", "int"), false, false},
		{app(nil, nil, "[k]int", "[k]int"), true, true},
	} {
		if agree.Valid(c.c) != c.valid || agree.Known(c.c) != c.known {
			t.Errorf("%d", i)
		}
	}
}

func TestFrame(t *testing.T) { // P14.1, P14.5
	for i, c := range []struct {
		cells, args []string
		want        string
		framed      []bool
		e           api.Errno
	}{
		{two, []string{"[n, 3]int", "int"}, "[n, 3]", []bool{true, false}, api.OK},
		{two, []string{"[n]int", "[n, 3]int"}, "[]", nil, api.ErrRank},
		{two, []string{"[n]int", "[m]bool"}, "[n]", []bool{true, true}, api.OK},
		{two, two, "[]", []bool{false, false}, api.OK},
		{[]string{"[n]int", "int"}, []string{"[a, b]int", "[c]int"}, "[a]", []bool{true, true}, api.OK},
		{[]string{"[n]int", "int"}, []string{"[a]int", "[c]int"}, "[c]", []bool{false, true}, api.OK},
		{[]string{"[n]int", "int"}, []string{"int", "[c]int"}, "[]", nil, api.ErrRank},
		{[]string{"int"}, []string{"[r..]int"}, "[]", nil, api.ErrArg},
		{nil, nil, "[]", nil, api.OK},
	} {
		f, framed, e := agree.Frame(app(c.cells, c.args, "int", "int"))
		if show(f) != c.want || !slices.Equal(framed, c.framed) || e != c.e {
			t.Errorf("%d: %s %v %d", i, show(f), framed, e)
		}
	}
}

func TestPairs(t *testing.T) { // P14.1
	c := app([]string{"[n]A", "int"}, []string{"[a, b]int", "[c]B"}, "[2]A", "[x..]C")
	l, e := agree.Pairs(c, sh("[r.., k]"), []bool{true, false})
	want := []unify.Pair{{A: typ("[a, b]int"), B: typ("[r.., k, n]A")}, {A: typ("[c]B"), B: typ("int")}, {A: typ("[x..]C"), B: typ("[r.., k, 2]A")}}
	equal := func(p, q unify.Pair) bool { return types.Equal(p.A, q.A) && types.Equal(p.B, q.B) }
	if !slices.EqualFunc(l, want, equal) || e != api.OK {
		t.Errorf("%v %d", l, e)
	}
	l[0].A.Shape.Dims[0].Terms[0].Var = "z"
	if show(c.Args[0].Shape) != "[a, b]" {
		t.Error("memory is shared")
	}
	l, e = agree.Pairs(c, api.Shape{}, []bool{false, false})
	want = []unify.Pair{{A: typ("[a, b]int"), B: typ("[n]A")}, {A: typ("[c]B"), B: typ("int")}, {A: typ("[x..]C"), B: typ("[2]A")}}
	if !slices.EqualFunc(l, want, equal) || e != api.OK {
		t.Errorf("%v %d", l, e)
	}
	for i, q := range []struct {
		c      api.Constraint
		frame  api.Shape
		framed []bool
		e      api.Errno
	}{
		{c, sh("[k]"), []bool{false, false}, api.ErrArg}, {c, sh("[k]"), []bool{true}, api.ErrArg}, {c, api.Shape{Row: "R"}, []bool{true, true}, api.ErrArg}, {api.Constraint{}, api.Shape{}, nil, api.ErrArg}, {c, sh("[1, 2, 3, 4, 5, 6]"), []bool{false, true}, api.ErrLimit}, {c, sh("[1, 2, 3, 4, 5, 6]"), []bool{true, false}, api.ErrLimit}, {c, sh("[]"), []bool{true, true}, api.OK},
	} {
		if l, e := agree.Pairs(q.c, q.frame, q.framed); e != q.e || e != api.OK && l != nil {
			t.Errorf("%d: %d", i, e)
		}
		if agree.Holds(q.c, q.frame, q.framed) {
			t.Errorf("%d holds", i)
		}
	}
}

func TestHolds(t *testing.T) { // P14.2
	for i, c := range []struct {
		c      api.Constraint
		frame  string
		framed []bool
		want   bool
	}{
		{app(two, []string{"[n, 3]int", "int"}, "int", "[n, 3]int"), "[n, 3]", []bool{true, false}, true},
		{app(two, []string{"[n, 3]int", "int"}, "int", "[n]int"), "[n, 3]", []bool{true, false}, false},
		{app(two, []string{"[n, 3]int", "bool"}, "int", "[n, 3]int"), "[n, 3]", []bool{true, false}, false},
		{app(two, []string{"[r.., 3]int", "int"}, "int", "[r.., 3]int"), "[r.., 3]", []bool{true, false}, true},
		{app(two, two, "int", "int"), "[]", []bool{false, false}, true},
		{app(two, two, "int", "int"), "[]", []bool{true, false}, true},
		{app(two, two, "int", "bool"), "[]", []bool{false, false}, false},
	} {
		if agree.Holds(c.c, sh(c.frame), c.framed) != c.want {
			t.Errorf("%d", i)
		}
	}
}

func TestRandom(t *testing.T) { // P14.2, P14.3, P14.4
	r := rand.New(rand.NewSource(1))
	dims := func(n int) []string { return []string{"n", "m+1", "3", "k"}[:n] }
	values := []api.Value{{Var: "n", N: 2}, {Var: "m", N: 2}, {Var: "k", N: 5}}
	for i := 0; i < 1000; i++ {
		frame := api.Shape{}
		for _, d := range dims(r.Intn(3)) {
			l, _ := linear.Parse(d)
			frame.Dims = append(frame.Dims, l)
		}
		var c api.Constraint
		var framed []bool
		var ranks []int
		c.Kind = api.ConsAgree
		for j := r.Intn(4); j > 0; j-- {
			cell := typ([]string{"int", "[n]int", "[2, m]bool", "[k]A"}[r.Intn(4)])
			isFramed := r.Intn(2) == 0
			arg := cell
			if isFramed {
				arg.Shape, _ = shape.Concat(frame, cell.Shape)
			}
			c.Cells, c.Args, framed, ranks = append(c.Cells, cell), append(c.Args, arg), append(framed, isFramed), append(ranks, len(cell.Shape.Dims))
		}
		if !slices.Contains(framed, true) {
			frame = api.Shape{}
		}
		c.OutCell = typ([]string{"int", "[k, 2]A"}[r.Intn(2)])
		c.Out = c.OutCell
		c.Out.Shape, _ = shape.Concat(frame, c.OutCell.Shape)
		if !agree.Holds(c, frame, framed) {
			t.Fatalf("%v does not hold by %v", c, framed)
		}
		f, fs, e := agree.Frame(c)
		if e != api.OK || !agree.Holds(c, f, fs) {
			t.Fatalf("%v: %v %v %d", c, f, fs, e)
		}
		var args [][]int
		for _, a := range c.Args {
			d, _ := shape.Eval(a.Shape, values)
			args = append(args, d)
		}
		d, ds, e := agree.Dims(args, ranks)
		want, _ := shape.Eval(f, values)
		if !slices.Equal(d, want) || !slices.Equal(ds, fs) || e != api.OK {
			t.Fatalf("%v: %v %v %d", c, d, ds, e)
		}
		out, _ := shape.Eval(c.Out.Shape, values)
		cell, _ := shape.Eval(c.OutCell.Shape, values)
		if !slices.Equal(out, append(d, cell...)) {
			t.Fatalf("%v: %v", c, out)
		}
		// Unknown types, solved by the pairs, let the application hold.
		open := c
		open.Args, open.Out = slices.Clone(c.Args), typ("[s..]B")
		for j := range open.Args {
			open.Args[j] = typ("[" + []string{"a", "b", "c", "d"}[j] + "..]" + []string{"F", "G", "H", "I"}[j])
		}
		row := api.Shape{}
		if slices.Contains(framed, true) {
			row = sh("[t.., n]")
		}
		l, _ := agree.Pairs(open, row, framed)
		binds, _, e := unify.Unify(l, 1)
		if e != api.OK {
			t.Fatalf("%v: %d", l, e)
		}
		for j := range open.Args {
			open.Args[j], _ = types.Subst(open.Args[j], binds)
			open.Cells[j], _ = types.Subst(open.Cells[j], binds)
		}
		open.Out, _ = types.Subst(open.Out, binds)
		open.OutCell, _ = types.Subst(open.OutCell, binds)
		if row, _ = shape.Subst(row, binds); !agree.Holds(open, row, framed) {
			t.Fatalf("%v does not hold", open)
		}
	}
}

func TestDims(t *testing.T) { // P14.1
	for i, c := range []struct {
		args   [][]int
		ranks  []int
		frame  []int
		framed []bool
		e      api.Errno
	}{
		{[][]int{{2, 3}, {}}, []int{0, 0}, []int{2, 3}, []bool{true, false}, api.OK},
		{[][]int{{2, 3}, {2}}, []int{1, 0}, []int{2}, []bool{true, true}, api.OK},
		{[][]int{{2, 3}, {3}}, []int{1, 0}, nil, nil, api.ErrShape},
		{[][]int{{2}, {3}, {1, 1}}, []int{0, 0, 0}, nil, nil, api.ErrRank},
		{[][]int{{2}, {3}, {1}}, []int{0, 0, 2}, nil, nil, api.ErrRank},
		{[][]int{{2}}, nil, nil, nil, api.ErrArg},
		{[][]int{{2}}, []int{-1}, nil, nil, api.ErrArg},
		{[][]int{{2}, {-2}}, []int{5, 0}, nil, nil, api.ErrArg},
		{make([][]int, 17), make([]int, 17), nil, nil, api.ErrArg},
		{make([][]int, 16), make([]int, 16), nil, make([]bool, 16), api.OK},
		{nil, nil, nil, nil, api.OK},
		{[][]int{{1 << 50}}, []int{0}, []int{1 << 50}, []bool{true}, api.OK},
	} {
		frame, framed, e := agree.Dims(c.args, c.ranks)
		if !slices.Equal(frame, c.frame) || !slices.Equal(framed, c.framed) || e != c.e {
			t.Errorf("%d: %v %v %d", i, frame, framed, e)
		}
	}
}
