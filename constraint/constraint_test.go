package constraint_test

import (
	"math/rand"
	"slices"
	"strings"
	"testing"

	"framewise/agree"
	"framewise/api"
	"framewise/constraint"
	"framewise/decide"
	"framewise/linear"
	"framewise/shape"
	"framewise/types"
)

func typ(s string) api.Type {
	t, e := types.Parse(s)
	if e != api.OK {
		panic(s)
	}
	return t
}

func typs(s string) []api.Type {
	c, e := types.ParseScheme("(" + s + ") -> int")
	if e != api.OK {
		panic(s)
	}
	return c.Params
}

func lin(s string) api.Linear {
	l, e := linear.Parse(s)
	if e != api.OK {
		panic(s)
	}
	return l
}

func same(a, b string) api.Constraint {
	return api.Constraint{Kind: api.ConsSame, Line: 1, A: typ(a), B: typ(b)}
}

func least(s string) api.Constraint {
	return api.Constraint{Kind: api.ConsLeast, Line: 2, L: lin(s)}
}

// app makes an application, as "cells -> cell: args -> out".
func app(s string) api.Constraint {
	f, a, _ := strings.Cut(s, ": ")
	cells, cell, _ := strings.Cut(f, " -> ")
	args, out, _ := strings.Cut(a, " -> ")
	return api.Constraint{Kind: api.ConsAgree, Line: 3, Cells: typs(cells), OutCell: typ(cell), Args: typs(args), Out: typ(out)}
}

func show(s api.Solution) string {
	out := ""
	for _, b := range s.Binds {
		out += b.Var + "="
		switch b.Kind {
		case api.DimVar:
			out += linear.Print(b.Dim)
		case api.RowVar:
			out += print(b.Row)
		default:
			out += b.Elem
		}
		out += " "
	}
	for i, f := range s.Frames {
		out += "/ " + print(f) + " "
		for _, x := range s.Framed[i] {
			out += map[bool]string{true: "f", false: "-"}[x]
		}
		out += " "
	}
	for _, l := range s.Where {
		out += "," + linear.Print(l)
	}
	if s.Forced {
		out += " forced"
	}
	return out
}

func print(s api.Shape) string {
	text, _ := shape.Print(s)
	return text
}

func list(c ...api.Constraint) []api.Constraint { return c }

func TestSolve(t *testing.T) { // P15.1, P15.5
	add := "int, int -> int: "
	for i, c := range []struct {
		l     []api.Constraint
		next  int
		want  string
		after int
		e     api.Errno
	}{
		{nil, 1, " forced", 1, api.OK},
		{list(app(add + "[r..]int, int -> [s..]int")), 1, "r=[_1..] s=[_1..] / [_1..] f-  forced", 2, api.OK},
		{list(app(add + "[r..]int, [s..]int -> [t..]int")), 1, "r=[_1..] s=[_1..] t=[_1..] / [_1..] ff ", 2, api.OK},
		{list(app(add + "[n, 3]int, A -> [t..]B")), 7, "t=[n, 3] A=int B=int / [n, 3] f- ,n forced", 7, api.OK},
		{list(app(add+"[n]int, [r..]int -> B"), same("[r..]A", "A")), 1, "", 0, api.ErrRank},
		{list(app(add+"[n]int, [r..]int -> [s..]B"), same("[r..]A", "A")), 1, "r=[] s=[n] B=int / [n] f- ,n forced", 1, api.OK},
		{list(app(add + "[n]int, [n, 3]int -> [t..]B")), 1, "", 0, api.ErrRank},
		{list(app(add + "[n]int, [3]int -> [t..]B")), 1, "n=3 t=[3] B=int / [3] ff  forced", 1, api.OK},
		{list(app("[n]A -> A: [3, 4]int -> [t..]B")), 1, "n=4 t=[3] A=int B=int / [3] f  forced", 1, api.OK},
		{list(app("[n]A -> A: int -> [t..]B")), 1, "", 0, api.ErrRank},
		{list(app(" -> [k]int:  -> [t..]B"), least("k")), 1, "t=[k] B=int / []  ,k forced", 1, api.OK},
		{list(same("int", "bool")), 1, "", 0, api.ErrType},
		{list(same("[2]A", "[3]A")), 1, "", 0, api.ErrShape},
		{list(same("[2n]A", "[m+1]A")), 4, "m=2n-1 ,2n forced", 4, api.OK},
		{list(same("[n]A", "[m-3]A"), least("1-m"), least("5"), least("n")), 1, "", 0, api.ErrConflict},
		{list(least("-1")), 1, "", 0, api.ErrConflict},
		{list(same("[3n]A", "[2m]A"), least("n-1")), 4, "m=-3_4 n=-2_4 ,-6_4,-2_4-1 forced", 5, api.OK},
		{list(same("[n]A", "[1000000]A"), least("n-1"), least("2n")), 1, "", 0, api.ErrLimit},
		{list(same("[n]A", "[1]A")), 1, "n=1  forced", 1, api.OK},
		{list(app("[n]A -> [n, 2, 3]A: [1, 2, 3, 4, 5]int -> [t..]B")), 1, "", 0, api.ErrLimit},
		{list(least("_5")), 5, "", 0, api.ErrArg},
		{list(least("_5")), 6, ",_5 forced", 6, api.OK},
		{list(same("[_5..]A", "[_5..]A")), 5, "", 0, api.ErrArg},
		{nil, 0, "", 0, api.ErrArg},
		{nil, 900000, " forced", 900000, api.OK},
		{nil, 900001, "", 0, api.ErrArg},
	} {
		s, after, e := constraint.Solve(c.l, c.next)
		if strings.TrimSpace(show(s)) != strings.TrimSpace(c.want) || after != c.after || e != c.e {
			t.Errorf("%d: %q %d %d", i, show(s), after, e)
		}
		if e == api.OK && !constraint.Holds(c.l, s) {
			t.Errorf("%d does not hold", i)
		}
	}
}

func TestChoices(t *testing.T) { // P15.1
	add := "int, int -> int: "
	for i, c := range []struct {
		l    []api.Constraint
		want string
		e    api.Errno
	}{
		// All arguments are framed first, with rows that turn out to be empty.
		{list(app(add+"[r..]int, [s..]int -> [t..]int"), app("[n]int -> int: [s.., k]int -> [u..]int"), app("[2]int, int -> int: [k]int, [s..]int -> int")), "k=2 n=2 _1=[] _2=[] _3=[] r=[] s=[] t=[] u=[] / [] ff / [] f / [] -f", api.OK},
		{list(app(add+"[r..]int, [s..]int -> int"), app(add+"[r..]int, [s..]int -> [n]int")), "", api.ErrRank},
		{list(app(add+"[r.., a]int, [s.., b]int -> [t..]int"), app("[n]int, int -> int: [r.., a]int, [s.., b]int -> [t..]int")), "b=a n=a _1=[a] r=[] s=[] t=[a] / [a] ff / [a] -f ,a", api.OK},
	} {
		s, _, e := constraint.Solve(c.l, 1)
		if e != c.e {
			t.Errorf("%d: %q %d", i, show(s), e)
		}
		if e == api.OK && (!constraint.Holds(c.l, s) || s.Forced || strings.TrimSpace(show(s)) != c.want) {
			t.Errorf("%d: %q", i, show(s))
		}
	}
	// Each application has a choice, and all of them fail at last: too many branches.
	l := list()
	for i := 0; i < 12; i++ {
		k := string(rune('a' + i))
		l = append(l, app(add+"["+k+"x..]int, ["+k+"y..]int -> ["+k+"z..]int"))
	}
	if s, _, e := constraint.Solve(l, 1); e != api.OK || s.Forced {
		t.Errorf("%d", e)
	}
	if s, _, e := constraint.Solve(append(l, least("-1")), 1); e != api.ErrLimit || s.Binds != nil {
		t.Errorf("%d", e)
	}
	if _, _, e := constraint.Solve(append(l[:3:3], least("-1")), 1); e != api.ErrConflict {
		t.Errorf("%d", e)
	}
}

func TestValid(t *testing.T) { // P15.1
	change := func(c api.Constraint, f func(*api.Constraint)) api.Constraint { f(&c); return c }
	good := []api.Constraint{same("A", "int"), app("int -> int: [r..]A -> [s..]B"), least("n"), change(least("n"), func(c *api.Constraint) { c.A.Elem = "x"; c.Line = 10000 })}
	if !constraint.Valid(good) || !constraint.Valid(slices.Repeat(good, 250)) || constraint.Valid(slices.Repeat(good, 251)) {
		t.Error("valid lists")
	}
	for i, c := range []api.Constraint{
		{}, {Kind: 4, Line: 1}, change(least("n"), func(c *api.Constraint) { c.Line = 0 }), change(least("n"), func(c *api.Constraint) { c.Line = 10001 }), change(least("n"), func(c *api.Constraint) { c.L.Const = 1 << 30 }), change(same("A", "A"), func(c *api.Constraint) { c.B.Elem = "x" }), change(same("A", "A"), func(c *api.Constraint) { c.A.Shape.Row = "R" }), change(good[1], func(c *api.Constraint) { c.Cells = nil }),
	} {
		_, _, e := constraint.Solve([]api.Constraint{c}, 1)
		_, f := constraint.Under(c, nil)
		if constraint.Valid([]api.Constraint{c}) || e != api.ErrArg || f != api.ErrArg || constraint.Holds([]api.Constraint{c}, api.Solution{}) {
			t.Errorf("%d", i)
		}
	}
}

func TestUnder(t *testing.T) { // P15.1
	binds := []api.Bind{{Kind: api.DimVar, Var: "n", Dim: lin("2k")}, {Kind: api.RowVar, Var: "r", Row: api.Shape{Dims: []api.Linear{lin("m")}}}, {Kind: api.ElemVar, Var: "A", Elem: "int"}}
	c := app("[n]A -> A: [r.., n]A -> [r..]A")
	c.A, c.L = typ("bool"), lin("n")
	u, e := constraint.Under(c, binds)
	if e != api.OK || !types.Equal(u.Args[0], typ("[m, 2k]int")) || !types.Equal(u.Cells[0], typ("[2k]int")) || !types.Equal(u.Out, typ("[m]int")) || !types.Equal(u.OutCell, typ("int")) || u.A.Elem != "" || u.L.Terms != nil || u.Kind != c.Kind || u.Line != c.Line {
		t.Errorf("%v %d", u, e)
	}
	if u, e := constraint.Under(least("n+1"), binds); linear.Print(u.L) != "2k+1" || e != api.OK || u.Line != 2 {
		t.Errorf("%v %d", u, e)
	}
	if u, e := constraint.Under(same("[n]A", "B"), binds); !types.Equal(u.A, typ("[2k]int")) || u.B.Elem != "B" || e != api.OK {
		t.Errorf("%v %d", u, e)
	}
	if _, e := constraint.Under(least("600000n"), binds); e != api.ErrLimit {
		t.Errorf("%d", e)
	}
	if _, e := constraint.Under(least("n"), append(binds, binds...)); e != api.ErrArg {
		t.Errorf("%d", e)
	}
}

func TestHolds(t *testing.T) { // P15.1
	l := list(app("int, int -> int: [r..]int, int -> [s..]int"), same("[s..]A", "[n]int"), least("n-2"), least("3"))
	s, _, e := constraint.Solve(l, 1)
	if e != api.OK || !constraint.Holds(l, s) {
		t.Fatalf("%q %d", show(s), e)
	}
	for i, f := range []func(*api.Solution){
		func(s *api.Solution) { s.Where = nil },
		func(s *api.Solution) { s.Frames = nil },
		func(s *api.Solution) { s.Framed = nil },
		func(s *api.Solution) {
			s.Frames, s.Framed = append(s.Frames, s.Frames...), append(s.Framed, s.Framed...)
		},
		func(s *api.Solution) { s.Frames = []api.Shape{{}} },
		func(s *api.Solution) { s.Framed = [][]bool{{true, true}} },
		func(s *api.Solution) { s.Binds = s.Binds[2:] },
		func(s *api.Solution) { s.Binds = append(s.Binds[:1:1], s.Binds...) },
	} {
		wrong := s
		if f(&wrong); constraint.Holds(l, wrong) {
			t.Errorf("%d", i)
		}
	}
}

func random(r *rand.Rand) api.Type {
	t := api.Type{Elem: []string{"A", "B", "int"}[r.Intn(3)]}
	if r.Intn(2) == 0 {
		t.Shape.Row = []string{"r", "s", "t"}[r.Intn(3)]
	}
	for j := r.Intn(3); j > 0; j-- {
		t.Shape.Dims = append(t.Shape.Dims, lin([]string{"n", "m", "k", "n+1", "2k", "2", "3"}[r.Intn(7)]))
	}
	return t
}

func randomCons(r *rand.Rand) api.Constraint {
	switch r.Intn(4) {
	case 0:
		return api.Constraint{Kind: api.ConsSame, Line: 1, A: random(r), B: random(r)}
	case 1:
		return least([]string{"n-1", "m-n", "k-2", "3-n"}[r.Intn(4)])
	}
	c := app([]string{"int -> int: int -> int", "int, int -> int: int, int -> int", "[n]A -> A: A -> A", "[m]A, [2]B -> [m]B: A, A -> A"}[r.Intn(4)])
	for i := range c.Args {
		c.Args[i] = random(r)
	}
	c.Out = random(r)
	return c
}

// ground returns values of all variables.
func ground(r *rand.Rand) []api.Bind {
	var l []api.Bind
	for _, v := range []string{"k", "m", "n"} {
		l = append(l, api.Bind{Kind: api.DimVar, Var: v, Dim: linear.Of(r.Intn(4))})
	}
	for _, v := range []string{"r", "s", "t"} {
		var row api.Shape
		for j := r.Intn(3); j > 0; j-- {
			row.Dims = append(row.Dims, linear.Of(r.Intn(4)))
		}
		l = append(l, api.Bind{Kind: api.RowVar, Var: v, Row: row})
	}
	for _, v := range []string{"A", "B"} {
		l = append(l, api.Bind{Kind: api.ElemVar, Var: v, Elem: []string{"int", "bool"}[r.Intn(2)]})
	}
	return l
}

// satisfied reports whether values satisfy a constraint, with the frame of layer 14, and all dimensions at least 0.
func satisfied(c api.Constraint, values []api.Bind) bool {
	u, e := constraint.Under(c, values)
	if e != api.OK {
		return false
	}
	var dims []api.Linear
	for _, t := range append(append([]api.Type{u.A, u.B, u.Out, u.OutCell}, u.Args...), u.Cells...) {
		dims = append(dims, t.Shape.Dims...)
	}
	if slices.ContainsFunc(append(dims, u.L), func(l api.Linear) bool { return l.Const < 0 }) {
		return false
	}
	switch u.Kind {
	case api.ConsSame:
		return types.Equal(u.A, u.B)
	case api.ConsAgree:
		f, framed, e := agree.Frame(u)
		return e == api.OK && agree.Holds(u, f, framed)
	}
	return true
}

func TestComplete(t *testing.T) { // P15.2, P15.3, P15.4, P15.6
	r := rand.New(rand.NewSource(1))
	forced := 0
	for i := 0; i < 1500; i++ {
		values := ground(r)
		var l []api.Constraint
		for tries := 0; len(l) < 4 && tries < 400; tries++ {
			if c := randomCons(r); satisfied(c, values) {
				l = append(l, c)
			}
		}
		s, _, e := constraint.Solve(l, 1)
		if e == api.ErrLimit {
			continue
		}
		if e != api.OK || !constraint.Holds(l, s) {
			t.Fatalf("%v: %d", l, e)
		}
		if !s.Forced {
			continue
		}
		forced++
		var general, special []api.Type
		for _, c := range l {
			u, _ := constraint.Under(c, s.Binds)
			v, _ := constraint.Under(c, values)
			if c.Kind == api.ConsAgree {
				general, special = append(general, u.Args...), append(special, v.Args...)
			} else if c.Kind == api.ConsSame {
				general, special = append(general, u.A), append(special, v.A)
			}
		}
		if len(general) > 0 && len(general) <= types.MaxParams {
			if _, e := types.Instance(api.Scheme{Params: general, Result: typ("int")}, api.Scheme{Params: special, Result: typ("int")}); e != api.OK {
				t.Fatalf("%v is no instance of %v: %d", special, general, e)
			}
		}
	}
	if forced < 100 {
		t.Error(forced)
	}
}

func TestFewer(t *testing.T) { // P15.2, P15.6
	r := rand.New(rand.NewSource(2))
	solved := 0
	for i := 0; i < 3000; i++ {
		var l []api.Constraint
		for j := r.Intn(4); j >= 0; j-- {
			l = append(l, randomCons(r))
		}
		s, _, e := constraint.Solve(l, 1)
		if e != api.OK {
			continue
		}
		if !constraint.Holds(l, s) {
			t.Fatalf("%v: %q", l, show(s))
		}
		var facts []api.Fact
		for _, w := range s.Where {
			facts = append(facts, api.Fact{L: w})
		}
		if v, _, _ := decide.Decide(facts); v != decide.Sat {
			continue
		}
		solved++
		k := r.Intn(len(l))
		fewer := append(slices.Clone(l[:k]), l[k+1:]...)
		if _, _, e := constraint.Solve(fewer, 1); e != api.OK && e != api.ErrLimit {
			t.Fatalf("%v: %d without %d", l, e, k)
		}
	}
	if solved < 300 {
		t.Error(solved)
	}
}
