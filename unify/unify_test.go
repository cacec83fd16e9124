package unify_test

import (
	"math/rand"
	"slices"
	"testing"

	"framewise/api"
	"framewise/linear"
	"framewise/shape"
	"framewise/types"
	"framewise/unify"
)

func typ(s string) api.Type {
	t, e := types.Parse(s)
	if e != api.OK {
		panic(s)
	}
	return t
}

// pairs makes pairs of each two texts.
func pairs(s ...string) []unify.Pair {
	var l []unify.Pair
	for i := 0; i < len(s); i += 2 {
		l = append(l, unify.Pair{A: typ(s[i]), B: typ(s[i+1])})
	}
	return l
}

func show(l []api.Bind) string {
	s := ""
	for _, b := range l {
		s += b.Var + "="
		switch b.Kind {
		case api.DimVar:
			s += linear.Print(b.Dim)
		case api.RowVar:
			row, _ := shape.Print(b.Row)
			s += row
		default:
			s += b.Elem
		}
		s += " "
	}
	return s
}

func TestUnify(t *testing.T) { // P13.1
	for i, c := range []struct {
		l     []string
		next  int
		want  string
		after int
		e     api.Errno
	}{
		{[]string{"[r.., n]A", "[2, 3]int"}, 1, "n=3 r=[2] A=int ", 1, api.OK},
		{[]string{"[n]int", "int"}, 1, "", 0, api.ErrRank},
		{[]string{"[n, n]int", "[m+1, 2k]int"}, 1, "m=2k-1 n=2k ", 1, api.OK},
		{[]string{"[2n]int", "[3m]int"}, 5, "m=-2_5 n=-3_5 ", 6, api.OK},
		{[]string{"A", "B", "B", "int"}, 1, "A=int B=int ", 1, api.OK},
		{[]string{"B", "A"}, 1, "B=A ", 1, api.OK},
		{[]string{"A", "B", "B", "C", "C", "A"}, 1, "B=A C=A ", 1, api.OK},
		{[]string{"[r..]A", "[s..]A"}, 1, "s=[r..] ", 1, api.OK},
		{[]string{"[s..]A", "[r..]A"}, 1, "s=[r..] ", 1, api.OK},
		{[]string{"[r..]A", "A"}, 1, "r=[] ", 1, api.OK},
		{[]string{"[r..]A", "[s.., n]A"}, 1, "r=[s.., n] ", 1, api.OK},
		{[]string{"[s.., n]A", "[r..]A"}, 1, "r=[s.., n] ", 1, api.OK},
		{[]string{"[r..]A", "[s.., n]A", "[s..]A", "[2, m]A", "[k]A", "[n]A"}, 1, "n=k r=[2, m, k] s=[2, m] ", 1, api.OK},
		{[]string{"[r..]A", "[r.., n]A"}, 1, "", 0, api.ErrRank},
		{[]string{"[r..]A", "[s.., n]A", "[s..]A", "[r..]A"}, 1, "", 0, api.ErrRank},
		{[]string{"[n]A", "[r.., 2, 3]A"}, 1, "", 0, api.ErrRank},
		{[]string{"int", "bool"}, 1, "", 0, api.ErrType},
		{[]string{"[n]int", "bool"}, 1, "", 0, api.ErrType},
		{[]string{"A", "int", "A", "bool"}, 1, "", 0, api.ErrType},
		{[]string{"[n]int", "int", "int", "bool"}, 1, "", 0, api.ErrRank},
		{[]string{"[3]int", "[4]int"}, 1, "", 0, api.ErrShape},
		{[]string{"[3]int", "[4]int", "int", "bool"}, 1, "", 0, api.ErrType},
		{[]string{"[r..]A", "[1, 2, 3, 4]A", "[r.., 5, 6, 7]int", "bool"}, 1, "", 0, api.ErrLimit},
		{[]string{"[r..]A", "[s.., 1, 2, 3, 4]A", "[s..]A", "[5, 6, 7]A"}, 1, "", 0, api.ErrLimit},
		{[]string{"[1000000]A", "[-1]A"}, 1, "", 0, api.ErrLimit},
		{[]string{"[n]A", "[1000000m]A", "[2n]A", "[k]A"}, 1, "", 0, api.ErrLimit},
		{[]string{"[n]A", "[600000]A", "[2n]A", "[2n]A"}, 1, "", 0, api.ErrLimit},
		{[]string{"[_1]A", "[2]A"}, 1, "", 0, api.ErrArg},
		{[]string{"[_1]A", "[2]A"}, 2, "_1=2 ", 2, api.OK},
		{[]string{"[_7..]A", "A"}, 7, "", 0, api.ErrArg},
		{[]string{"A", "A"}, 0, "", 0, api.ErrArg},
		{[]string{"A", "A"}, 1000000, "", 1000000, api.OK},
		{[]string{"A", "A"}, 1000001, "", 0, api.ErrArg},
		{nil, 3, "", 3, api.OK},
	} {
		binds, after, e := unify.Unify(pairs(c.l...), c.next)
		if show(binds) != c.want || after != c.after || e != c.e {
			t.Errorf("%d: %s %d %d", i, show(binds), after, e)
		}
		if e == api.OK && !unify.Solves(pairs(c.l...), binds) {
			t.Errorf("%d: no solution", i)
		}
	}
	if _, _, e := unify.Unify([]unify.Pair{{A: api.Type{Elem: "a"}, B: typ("int")}}, 1); e != api.ErrArg {
		t.Error("a type that is not valid")
	}
	many := slices.Repeat(pairs("A", "A"), 6001)
	if _, _, e := unify.Unify(many, 1); e != api.ErrArg {
		t.Error("too many pairs")
	}
	if _, _, e := unify.Unify(many[1:], 1); e != api.OK {
		t.Error("as many pairs as there may be")
	}
	if _, _, e := unify.Unify(slices.Repeat(pairs("[1, 2]A", "[1, 2]A"), 3001), 1); e != api.ErrLimit {
		t.Error("too many equations")
	}
}

func TestEquations(t *testing.T) { // P13.1
	l, binds, e := unify.Equations(pairs("[r.., n, m]A", "[s.., k, 2, 3n]int", "[s..]B", "[2]A"))
	var texts []string
	for _, d := range l {
		texts = append(texts, linear.Print(d))
	}
	if !slices.Equal(texts, []string{"m-3n", "n-2"}) || show(binds) != "r=[2, k] s=[2] A=int B=int " || e != api.OK {
		t.Errorf("%v %s %d", texts, show(binds), e)
	}
	for i, c := range []struct {
		l []string
		e api.Errno
	}{
		{[]string{"[3]int", "[4]int"}, api.OK}, {[]string{"int", "bool"}, api.ErrType}, {[]string{"[n]A", "A"}, api.ErrRank}, {[]string{"[1000000]A", "[-1]A"}, api.ErrLimit}, {[]string{"[1000000]A", "[-1]A", "A", "[n]A"}, api.ErrRank}, {[]string{"[_1]A", "[2]A"}, api.OK},
	} {
		if _, _, e := unify.Equations(pairs(c.l...)); e != c.e {
			t.Errorf("%d: %d", i, e)
		}
	}
	if _, _, e := unify.Equations(make([]unify.Pair, 1)); e != api.ErrArg {
		t.Error("a pair that is not valid")
	}
}

func TestSolves(t *testing.T) { // P13.1
	l := pairs("[n]A", "[3]int")
	n := api.Bind{Kind: api.DimVar, Var: "n", Dim: linear.Of(3)}
	a := api.Bind{Kind: api.ElemVar, Var: "A", Elem: "int"}
	if !unify.Solves(l, []api.Bind{n, a}) || unify.Solves(l, []api.Bind{n}) || unify.Solves(l, []api.Bind{n, a, n}) || unify.Solves(append(l, unify.Pair{}), []api.Bind{n, a}) || !unify.Solves(nil, nil) {
		t.Error("Solves")
	}
	if u, e := unify.Apply(typ("[n]A"), []api.Bind{n, a}); e != api.OK || !types.Equal(u, typ("[3]int")) {
		t.Error("Apply")
	}
	if _, e := unify.Apply(typ("[n]A"), []api.Bind{n, n}); e != api.ErrArg {
		t.Error("Apply with binds that are not valid")
	}
}

func random(r *rand.Rand) api.Type {
	t := api.Type{Elem: []string{"A", "B", "C", "int", "bool"}[min(r.Intn(7), 4)%5]}
	if r.Intn(10) > 0 {
		t.Elem = []string{"A", "B", "int"}[r.Intn(3)]
	}
	if r.Intn(2) == 0 {
		t.Shape.Row = []string{"r", "s", "t"}[r.Intn(3)]
	}
	for j := r.Intn(3); j > 0; j-- {
		d, _ := linear.Parse([]string{"n", "m", "k", "n+1", "2k", "m-k", "2", "3"}[r.Intn(8)])
		t.Shape.Dims = append(t.Shape.Dims, d)
	}
	return t
}

// ground returns binds of all variables without variables.
func ground(r *rand.Rand) []api.Bind {
	var l []api.Bind
	for _, v := range []string{"k", "m", "n"} {
		l = append(l, api.Bind{Kind: api.DimVar, Var: v, Dim: linear.Of(r.Intn(4))})
	}
	for _, v := range []string{"r", "s", "t"} {
		var row api.Shape
		for j := r.Intn(3); j > 0; j-- {
			row.Dims = append(row.Dims, linear.Of(r.Intn(4)))
		}
		l = append(l, api.Bind{Kind: api.RowVar, Var: v, Row: row})
	}
	for _, v := range []string{"A", "B"} {
		l = append(l, api.Bind{Kind: api.ElemVar, Var: v, Elem: []string{"int", "bool"}[r.Intn(2)]})
	}
	return l
}

func TestRandom(t *testing.T) { // P13.2, P13.4, P13.5
	r := rand.New(rand.NewSource(1))
	solved := 0
	for i := 0; i < 5000; i++ {
		var l []unify.Pair
		for j := r.Intn(4); j >= 0; j-- {
			l = append(l, unify.Pair{A: random(r), B: random(r)})
		}
		binds, after, e := unify.Unify(l, 1)
		turned := slices.Clone(l)
		slices.Reverse(turned)
		for j := range turned {
			turned[j].A, turned[j].B = turned[j].B, turned[j].A
		}
		if _, _, f := unify.Unify(turned, 1); (e == api.OK) != (f == api.OK) {
			t.Fatalf("%v: %d and %d", l, e, f)
		}
		if e != api.OK {
			continue
		}
		solved++
		if !unify.Solves(l, binds) {
			t.Fatalf("%v: %s", l, show(binds))
		}
		bound := map[api.Errno]map[string]bool{1: {}, 2: {}, 3: {}}
		for _, b := range binds {
			bound[api.Errno(b.Kind)][b.Var] = true
		}
		for _, b := range binds {
			for _, v := range types.TypeVars(api.Type{Elem: max(b.Elem, "A"), Shape: api.Shape{Row: b.Row.Row, Dims: append(b.Row.Dims, b.Dim)}}) {
				if bound[api.Errno(v.Kind)][v.Var] && !(v.Kind == api.ElemVar && b.Kind != api.ElemVar) {
					t.Fatalf("%v: %s", l, show(binds))
				}
			}
		}
		var under []unify.Pair
		for _, p := range l {
			a, _ := unify.Apply(p.A, binds)
			b, _ := unify.Apply(p.B, binds)
			under = append(under, unify.Pair{A: a, B: b})
		}
		if more, _, e := unify.Unify(under, after); len(more) != 0 || e != api.OK {
			t.Fatalf("%v under the result: %s", l, show(more))
		}
	}
	if solved < 300 {
		t.Error(solved)
	}
}

func TestMostGeneral(t *testing.T) { // P13.3
	r := rand.New(rand.NewSource(2))
	for i := 0; i < 5000; i++ {
		values := ground(r)
		var l []unify.Pair
		for tries := 0; len(l) < 3 && tries < 300; tries++ {
			if p := (unify.Pair{A: random(r), B: random(r)}); unify.Solves([]unify.Pair{p}, values) {
				l = append(l, p)
			}
		}
		binds, after, e := unify.Unify(l, 1)
		if e != api.OK {
			t.Fatalf("%v is solved by %s, but %d", l, show(values), e)
		}
		// The result with what the values say has to have a solution.
		var special []unify.Pair
		for _, p := range l {
			for _, x := range []api.Type{p.A, p.B} {
				a, _ := unify.Apply(x, binds)
				b, _ := unify.Apply(x, values)
				special = append(special, unify.Pair{A: a, B: b})
			}
		}
		if _, _, e := unify.Unify(special, after); e != api.OK {
			t.Fatalf("%v is solved by %s, which is no case of %s", l, show(values), show(binds))
		}
	}
}
