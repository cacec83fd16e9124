package shape_test

import (
	"math/rand"
	"slices"
	"strings"
	"testing"

	"framewise/api"
	"framewise/linear"
	"framewise/poly"
	"framewise/shape"
)

func lin(s string) api.Linear {
	l, e := linear.Parse(s)
	if e != api.OK {
		panic(s)
	}
	return l
}

func parse(s string) api.Shape {
	p, e := shape.Parse(s)
	if e != api.OK {
		panic(s)
	}
	return p
}

func print(s api.Shape) string {
	text, e := shape.Print(s)
	if e != api.OK {
		return "error"
	}
	return text
}

func dim(v, d string) api.Bind { return api.Bind{Kind: api.DimVar, Var: v, Dim: lin(d)} }

func row(v, s string) api.Bind { return api.Bind{Kind: api.RowVar, Var: v, Row: parse(s)} }

var bad = []api.Shape{{Row: "R"}, {Row: "1"}, {Dims: make([]api.Linear, 7)}, {Dims: []api.Linear{linear.Var("N")}}, {Dims: []api.Linear{lin("n"), {Const: api.MaxCoef + 1}}}}

func TestValid(t *testing.T) { // P11.1
	for i, s := range bad {
		if shape.Valid(s) {
			t.Errorf("%d", i)
		}
	}
	for _, s := range []string{"[]", "[r..]", "[_12..]", "[n, 2, -3, m-n, 0, 1000000]", "[r.., a, b, c, d, e, f]"} {
		if !shape.Valid(parse(s)) {
			t.Errorf("%s", s)
		}
	}
	for s, want := range map[string]bool{"A": true, "Z9": true, "E1000001": true, "A" + strings.Repeat("0", 29): true, "A" + strings.Repeat("0", 30): false, "": false, "a": false, "AB": false, "A1b": false, "1": false, "_1": false} {
		if shape.ElemVar(s) != want {
			t.Errorf("ElemVar of %q", s)
		}
	}
}

func TestValidBinds(t *testing.T) { // P11.1
	elem := api.Bind{Kind: api.ElemVar, Var: "A", Elem: "B1"}
	change := func(b api.Bind, f func(*api.Bind)) api.Bind { f(&b); return b }
	for i, c := range []struct {
		l    []api.Bind
		want bool
	}{
		{nil, true}, {[]api.Bind{dim("n", "m"), row("n", "[]"), elem, dim("_1", "0")}, true}, {[]api.Bind{dim("n", "m"), dim("n", "m")}, false}, {[]api.Bind{elem, elem}, false}, {[]api.Bind{row("n", "[]"), row("n", "[]")}, false},
		{[]api.Bind{{Kind: 0, Var: "n"}}, false}, {[]api.Bind{{Kind: 4, Var: "n"}}, false}, {[]api.Bind{{Kind: api.DimVar, Var: "A"}}, false}, {[]api.Bind{{Kind: api.DimVar, Var: ""}}, false}, {[]api.Bind{{Kind: api.ElemVar, Var: "n", Elem: api.Int}}, false}, {[]api.Bind{{Kind: api.ElemVar, Var: "A"}}, false}, {[]api.Bind{{Kind: api.ElemVar, Var: "A", Elem: "float"}}, false}, {[]api.Bind{{Kind: api.ElemVar, Var: "A", Elem: api.Bool}}, true},
		{[]api.Bind{change(dim("n", "m"), func(b *api.Bind) { b.Elem = "A" })}, false}, {[]api.Bind{change(dim("n", "m"), func(b *api.Bind) { b.Row.Row = "r" })}, false}, {[]api.Bind{change(dim("n", "m"), func(b *api.Bind) { b.Row.Dims = []api.Linear{} })}, true}, {[]api.Bind{change(row("n", "[]"), func(b *api.Bind) { b.Dim.Const = 1 })}, false}, {[]api.Bind{change(row("n", "[]"), func(b *api.Bind) { b.Row = bad[0] })}, false}, {[]api.Bind{change(elem, func(b *api.Bind) { b.Dim = lin("n") })}, false}, {[]api.Bind{change(elem, func(b *api.Bind) { b.Row = parse("[2]") })}, false}, {[]api.Bind{change(dim("n", "m"), func(b *api.Bind) { b.Dim = linear.Var("N") })}, false},
	} {
		if shape.ValidBinds(c.l) != c.want {
			t.Errorf("%d", i)
		}
	}
}

func TestParts(t *testing.T) { // P11.1
	if !shape.Equal(api.Shape{Dims: []api.Linear{}}, api.Shape{}) || shape.Equal(parse("[r..]"), parse("[]")) || shape.Equal(parse("[n]"), parse("[m]")) || !shape.Equal(bad[0], bad[0]) || shape.Equal(parse("[n]"), parse("[n, 1]")) {
		t.Error("Equal")
	}
	if n, ok := shape.Rank(parse("[n, 2]")); n != 2 || !ok {
		t.Error("Rank")
	}
	for _, s := range append(bad, parse("[r.., n]")) {
		if n, ok := shape.Rank(s); n != 0 || ok {
			t.Error("no rank")
		}
	}
	var names []string
	for _, b := range shape.Vars(parse("[n.., m+n, a+m, 3, b-n]")) {
		names = append(names, string(rune('0'+b.Kind))+b.Var)
	}
	if !slices.Equal(names, []string{"2n", "1m", "1n", "1a", "1b"}) || shape.Vars(bad[4]) != nil {
		t.Errorf("%v", names)
	}
}

func TestConcat(t *testing.T) { // P11.2
	for i, c := range []struct {
		a, b, want string
		e          api.Errno
	}{
		{"[r.., n]", "[2, m]", "[r.., n, 2, m]", api.OK}, {"[]", "[]", "[]", api.OK}, {"[n]", "[r..]", "[]", api.ErrRank}, {"[1, 2, 3, 4]", "[5, 6]", "[1, 2, 3, 4, 5, 6]", api.OK}, {"[1, 2, 3, 4]", "[5, 6, 7]", "[]", api.ErrLimit},
	} {
		s, e := shape.Concat(parse(c.a), parse(c.b))
		if print(s) != c.want || e != c.e {
			t.Errorf("%d: %s %d", i, print(s), e)
		}
		if frame, cell, e := shape.Split(s, len(parse(c.b).Dims)); c.e == api.OK && (print(frame) != c.a || print(cell) != c.b || e != api.OK) {
			t.Errorf("%d: Split", i)
		}
	}
	for i, s := range bad {
		_, e := shape.Concat(s, parse("[r..]"))
		_, f := shape.Concat(parse("[]"), s)
		_, _, g := shape.Split(s, -1)
		if e != api.ErrArg || f != api.ErrArg || g != api.ErrArg {
			t.Errorf("%d: a shape that is not valid", i)
		}
	}
	for k, want := range map[int]api.Errno{-1: api.ErrRange, 0: api.OK, 2: api.OK, 3: api.ErrRank} {
		if frame, cell, e := shape.Split(parse("[r.., n, m]"), k); e != want || e != api.OK && print(frame)+print(cell) != "[][]" {
			t.Errorf("Split by %d: %d", k, e)
		}
	}
	s := parse("[n, m]")
	frame, cell, _ := shape.Split(s, 1)
	frame.Dims[0].Terms[0].Var, cell.Dims[0].Terms[0].Var = "x", "y"
	if frame.Dims = append(frame.Dims, lin("z")); print(s) != "[n, m]" || print(cell) != "[y]" {
		t.Error("memory is shared")
	}
}

func TestSubst(t *testing.T) { // P11.3
	for i, c := range []struct {
		s    string
		l    []api.Bind
		want string
		e    api.Errno
	}{
		{"[r.., n+1, 3]", []api.Bind{row("r", "[m]"), dim("n", "2k")}, "[m, 2k+1, 3]", api.OK},
		{"[r.., n, m]", []api.Bind{dim("n", "m"), dim("m", "n")}, "[r.., m, n]", api.OK},
		{"[r.., n]", []api.Bind{row("r", "[s.., n]"), dim("n", "5"), row("s", "[]")}, "[s.., n, 5]", api.OK},
		{"[n.., n]", []api.Bind{dim("n", "1")}, "[n.., 1]", api.OK},
		{"[r.., n]", nil, "[r.., n]", api.OK},
		{"[r.., n, n, n]", []api.Bind{row("r", "[1, 2, 3]")}, "[1, 2, 3, n, n, n]", api.OK},
		{"[r.., n, n, n]", []api.Bind{row("r", "[1, 2, 3, 4]")}, "[]", api.ErrLimit},
		{"[2n]", []api.Bind{dim("n", "600000")}, "[]", api.ErrLimit},
		{"[n]", []api.Bind{dim("n", "1"), dim("n", "1")}, "[]", api.ErrArg},
	} {
		s, e := shape.Subst(parse(c.s), c.l)
		if print(s) != c.want || e != c.e {
			t.Errorf("%d: %s %d", i, print(s), e)
		}
	}
	if _, e := shape.Subst(bad[0], nil); e != api.ErrArg {
		t.Error("a shape that is not valid")
	}
	l := []api.Bind{row("r", "[s.., m, 2]"), dim("n", "2m-1"), dim("k", "n")}
	frame, cell := parse("[r.., k]"), parse("[k+n, 7]")
	whole, _ := shape.Concat(frame, cell)
	a, _ := shape.Subst(whole, l)
	x, _ := shape.Subst(frame, l)
	y, _ := shape.Subst(cell, l)
	if b, e := shape.Concat(x, y); !shape.Equal(a, b) || e != api.OK {
		t.Error("the parts of a shape")
	}
	a.Dims[0].Terms[0].Var = "z"
	if print(l[0].Row) != "[s.., m, 2]" {
		t.Error("memory is shared")
	}
}

func TestValues(t *testing.T) { // P11.4, P11.5
	values := []api.Value{{Var: "n", N: 3}, {Var: "m", N: 2000000000}, {Var: "k", N: 4}}
	for i, c := range []struct {
		s    string
		want []int
		e    api.Errno
	}{
		{"[]", nil, api.OK}, {"[n, k+2n, 4096]", []int{3, 10, 4096}, api.OK}, {"[n, -n]", nil, api.ErrRange}, {"[4097]", nil, api.ErrRange}, {"[x, -1]", nil, api.ErrName}, {"[-1, x]", nil, api.ErrRange}, {"[m]", nil, api.ErrRange}, {"[r..]", nil, api.ErrRank},
	} {
		dims, e := shape.Eval(parse(c.s), values)
		if !slices.Equal(dims, c.want) || e != c.e {
			t.Errorf("%d: %v %d", i, dims, e)
		}
	}
	r := rand.New(rand.NewSource(1))
	for i := 0; i < 300; i++ {
		s := parse([]string{"[n, k+m]", "[2n, 3, k]", "[]", "[k+m+n, n, 7, k]"}[r.Intn(4)])
		l := []api.Bind{dim("n", "m+1"), dim("k", "2n+k")}
		values := []api.Value{{Var: "n", N: r.Intn(9)}, {Var: "m", N: r.Intn(9)}, {Var: "k", N: r.Intn(9)}}
		under, _ := shape.Subst(s, l)
		a, _ := shape.Eval(under, values)
		n, _ := linear.Eval(l[0].Dim, values)
		k, _ := linear.Eval(l[1].Dim, values)
		b, _ := shape.Eval(s, []api.Value{{Var: "n", N: n}, {Var: "m", N: values[1].N}, {Var: "k", N: k}})
		if !slices.Equal(a, b) {
			t.Fatalf("%s: %v %v", print(s), a, b)
		}
		p, _ := shape.Cells(under)
		product := 1
		for _, d := range a {
			product *= d
		}
		if n, e := poly.Eval(p, values); n != product || e != api.OK {
			t.Fatalf("%s: %v %d", print(under), p, product)
		}
	}
	for _, s := range bad {
		_, e := shape.Eval(s, nil)
		_, f := shape.Cells(s)
		if _, g := shape.Print(s); e != api.ErrArg || f != api.ErrArg || g != api.ErrArg {
			t.Error("a shape that is not valid")
		}
	}
	if _, e := shape.Cells(parse("[r..]")); e != api.ErrRank {
		t.Error("Cells of a row")
	}
	if _, e := shape.Cells(parse("[1000000, 1000000, 1000000]")); e != api.ErrLimit {
		t.Error("too great a product")
	}
}

func TestTexts(t *testing.T) { // P11.6
	for _, s := range []string{"[]", "[r..]", "[r.., n+1, 3]", "[_1.., _2]", "[-n, m-n-1]", "[1, 2, 3, 4, 5, 6]"} {
		if print(parse(s)) != s {
			t.Errorf("%s", s)
		}
	}
	for _, s := range []string{"", "[", "]", "n", "[n", "n]", "[n,m]", "[n ]", "[n, ]", "[, n]", "[r.., ]", "[r..,n]", "[r..n]", "[..]", "[.., n]", "[R..]", "[n, r..]", "[r.., s..]", "[1, 2, 3, 4, 5, 6, 7]", "[n+n]", "[1+n]", "[N]", "[1000001]", "[n]]", "[[n]", "[r.. , n]", "[r...]", "[]]"} {
		if p, e := shape.Parse(s); e != api.ErrSyntax || p.Row != "" || p.Dims != nil {
			t.Errorf("%q: %v %d", s, p, e)
		}
	}
}
