package types_test

import (
	"math/rand"
	"slices"
	"strconv"
	"strings"
	"testing"

	"framewise/api"
	"framewise/linear"
	"framewise/shape"
	"framewise/types"
)

func lin(s string) api.Linear {
	l, e := linear.Parse(s)
	if e != api.OK {
		panic(s)
	}
	return l
}

func typ(s string) api.Type {
	t, e := types.Parse(s)
	if e != api.OK {
		panic(s)
	}
	return t
}

func scheme(s string) api.Scheme {
	t, e := types.ParseScheme(s)
	if e != api.OK {
		panic(s)
	}
	return t
}

func text(s api.Scheme) string {
	t, e := types.PrintScheme(s)
	if e != api.OK {
		return "error"
	}
	return t
}

// bind parses dim n=2k, row r=[m] and element A=int binds.
func binds(sources ...string) []api.Bind {
	var l []api.Bind
	for _, s := range sources {
		v, by, _ := strings.Cut(s, "=")
		b := api.Bind{Var: v}
		switch {
		case shape.ElemVar(v):
			b.Kind, b.Elem = api.ElemVar, by
		case strings.HasPrefix(by, "["):
			b.Kind = api.RowVar
			b.Row, _ = shape.Parse(by)
		default:
			b.Kind, b.Dim = api.DimVar, lin(by)
		}
		l = append(l, b)
	}
	return l
}

func names(l []api.Bind) string {
	s := ""
	for _, b := range l {
		s += strconv.Itoa(b.Kind) + b.Var + " "
	}
	return s
}

func show(l []api.Bind) string {
	s := ""
	for _, b := range l {
		s += b.Var + "="
		switch b.Kind {
		case api.DimVar:
			s += linear.Print(b.Dim)
		case api.RowVar:
			row, _ := shape.Print(b.Row)
			s += row
		default:
			s += b.Elem
		}
		s += " "
	}
	return s
}

var (
	badType   = api.Type{Elem: "a"}
	badShape  = api.Type{Elem: "int", Shape: api.Shape{Row: "R"}}
	badScheme = []api.Scheme{{Result: badType}, {Result: typ("int"), Params: []api.Type{badShape}}, {Result: typ("int"), Params: make([]api.Type, 1)}, {Result: typ("int"), Where: []api.Linear{linear.Var("N")}}}
)

func TestValid(t *testing.T) { // P12.1
	for i, s := range append(badScheme, api.Scheme{Result: typ("int"), Params: slices.Repeat([]api.Type{typ("int")}, 13)}, api.Scheme{Result: typ("int"), Where: make([]api.Linear, 61)}) {
		_, e := types.PrintScheme(s)
		_, f := types.Canonical(s)
		_, g := types.SubstScheme(s, nil)
		_, h := types.Instance(s, scheme("() -> int"))
		_, k := types.Instance(scheme("() -> int"), s)
		if types.ValidScheme(s) || e != api.ErrArg || f != api.ErrArg || g != api.ErrArg || h != api.ErrArg || k != api.ErrArg || types.Vars(s) != nil {
			t.Errorf("%d", i)
		}
	}
	if s := (api.Scheme{Result: typ("int"), Params: slices.Repeat([]api.Type{typ("int")}, 12), Where: make([]api.Linear, 60)}); !types.ValidScheme(s) {
		t.Error("the limits")
	}
	for i, b := range []api.Type{badType, badShape, {}, {Elem: "AB"}} {
		_, e := types.Print(b)
		_, f := types.Subst(b, nil)
		if types.Valid(b) || e != api.ErrArg || f != api.ErrArg || types.TypeVars(b) != nil {
			t.Errorf("%d", i)
		}
	}
	for _, s := range []string{"int", "bool", "A", "B12", "[r..]A", "[n]int"} {
		if !types.Valid(typ(s)) {
			t.Errorf("%s", s)
		}
	}
	if !types.Equal(typ("[n]A"), typ("[n]A")) || types.Equal(typ("[n]A"), typ("[n]B")) || types.Equal(typ("[n]A"), typ("[m]A")) || !types.Equal(badShape, badShape) {
		t.Error("Equal")
	}
	if a, b := scheme("(int, A) -> A where n-1, m"), scheme("(int, A) -> A where m, n-1"); types.EqualScheme(a, b) || !types.EqualScheme(a, a) || types.EqualScheme(a, scheme("(int, A) -> B where n-1, m")) || types.EqualScheme(a, scheme("(A) -> A where n-1, m")) || !types.EqualScheme(api.Scheme{Params: []api.Type{}}, api.Scheme{}) {
		t.Error("EqualScheme")
	}
}

func TestVars(t *testing.T) { // P12.1
	if s := names(types.TypeVars(typ("[r.., m+n, a+n]A"))); s != "2r 1m 1n 1a 3A " {
		t.Error(s)
	}
	if s := names(types.Vars(scheme("([r..]int, [n, b]A, A) -> [r.., c, b]B where z, a+n, k"))); s != "2r 1n 1b 3A 1c 3B 1z 1a 1k " {
		t.Error(s)
	}
	if s := names(types.Vars(scheme("([n.., n]A) -> int"))); s != "2n 1n 3A " {
		t.Error(s)
	}
}

func TestSubst(t *testing.T) { // P12.2
	for i, c := range []struct {
		s    string
		l    []api.Bind
		want string
		e    api.Errno
	}{
		{"([r.., n]A) -> [r..]B where n-1", binds("n=2k", "r=[m, 3]", "A=int", "B=A"), "([m, 3, 2k]int) -> [m, 3]A where 2k-1", api.OK},
		{"([r.., n]A) -> [r..]B where n-1", nil, "([r.., n]A) -> [r..]B where n-1", api.OK},
		{"([r.., n]A) -> [r..]B where n-1", binds("m=1", "s=[]", "C=int"), "([r.., n]A) -> [r..]B where n-1", api.OK},
		{"([n, m]A) -> B", binds("n=m", "m=n", "A=B", "B=A"), "([m, n]B) -> A", api.OK},
		{"([r.., n]A) -> B", binds("r=[1, 2, 3, 4, 5, 6]"), "error", api.ErrLimit},
		{"(A) -> [r.., n]B", binds("r=[1, 2, 3, 4, 5, 6]"), "error", api.ErrLimit},
		{"(A) -> B where 2n", binds("n=600000"), "error", api.ErrLimit},
		{"(A) -> B", binds("n=1", "n=1"), "error", api.ErrArg},
	} {
		s, e := types.SubstScheme(scheme(c.s), c.l)
		if text(s) != c.want || e != c.e {
			t.Errorf("%d: %s %d", i, text(s), e)
		}
	}
	if s, e := types.Subst(typ("[r.., n]A"), binds("n=2k", "r=[m]", "A=bool")); e != api.OK || !types.Equal(s, typ("[m, 2k]bool")) {
		t.Error("Subst")
	}
	if _, e := types.Subst(typ("A"), binds("A=c")); e != api.ErrArg {
		t.Error("binds that are not valid")
	}
}

func TestTexts(t *testing.T) { // P12.3
	for _, s := range []string{"int", "[n]int", "[r..]A", "[r.., n+1, 3]bool", "Z0"} {
		if out, e := types.Print(typ(s)); out != s || e != api.OK {
			t.Errorf("%s", s)
		}
	}
	for _, s := range []string{"", "[]int", "[n]", "[n] int", "int ", "[n]int, ", "float", "[nint", "n]int", "[n][m]int", "[n]int, int"} {
		if p, e := types.Parse(s); e != api.ErrSyntax || p.Elem != "" {
			t.Errorf("%q: %v %d", s, p, e)
		}
	}
	for _, s := range []string{"() -> int", "([r..]int, [n]A) -> [n]A where n-1, m+n", "(A) -> [r.., n]B where 0", "(" + strings.Repeat("int, ", 11) + "int) -> A"} {
		if out := text(scheme(s)); out != s {
			t.Errorf("%s", s)
		}
	}
	for _, s := range []string{"", "int", "()", "() -> ", "(int,int) -> int", "(int, ) -> int", "(int) -> int where ", "(int) -> int where n,m", "(int) -> int where 1+n", "(int)  -> int", "int) -> int", "(int -> int", "((int) -> int", "(int) -> int ", "(" + strings.Repeat("int, ", 12) + "int) -> A", "(int) -> int where " + strings.Repeat("n, ", 60) + "n", strings.Repeat("(", 9)} {
		if p, e := types.ParseScheme(s); e != api.ErrSyntax || p.Params != nil || p.Where != nil {
			t.Errorf("%q: %v %d", s, p, e)
		}
	}
}

func TestCanonical(t *testing.T) { // P12.4
	for in, want := range map[string]string{
		"([r..]int, [n]A) -> [n]A where n-1, m+n":            "([r1..]int, [n1]A1) -> [n1]A1 where n1-1, n1+n2",
		"([z.., b+z, a]B, [y.., a]A) -> [y.., z]B where a":   "([r1.., n1+n2, n3]A1, [r2.., n3]A2) -> [r2.., n2]A1 where n3",
		"([n]A) -> int where 3, n-2, 0, n-2, -1, n":          "([n1]A1) -> int where -1, n1-2, n1",
		"([n2, n1]A2, A1) -> A2":                             "([n1, n2]A1, A2) -> A1",
		"([n2, n1]int) -> int where n1-n2, n2":               "([n1, n2]int) -> int where -n1+n2, n1",
		"() -> int":                                          "() -> int",
		"([a, b, c, d, e, f]int, [g, h, i, j]int) -> [j]int": "([n1, n2, n3, n4, n5, n6]int, [n7, n8, n9, n10]int) -> [n10]int",
	} {
		s, e := types.Canonical(scheme(in))
		if text(s) != want || e != api.OK {
			t.Errorf("%s: %s", in, text(s))
		}
		if again, _ := types.Canonical(s); !types.EqualScheme(s, again) {
			t.Errorf("%s: %s", in, text(again))
		}
	}
	a, _ := types.Canonical(scheme("([r.., b+k]A, [c, b]B) -> int where b-c, k"))
	b, _ := types.Canonical(scheme("([x.., m+p]D, [n, m]F) -> int where m-n, p"))
	if !types.EqualScheme(a, b) {
		t.Error("other names in the same order")
	}
}

func TestInstance(t *testing.T) { // P12.1, P12.5
	for i, c := range []struct {
		general, special, want string
		e                      api.Errno
	}{
		{"([n]A) -> A", "([3]int) -> int", "n=3 A=int ", api.OK},
		{"([r.., n]A) -> [r..]A", "([s.., a, b+1]B) -> [s.., a]B", "n=b+1 r=[s.., a] A=B ", api.OK},
		{"([r..]A) -> [r..]A", "(int) -> int", "r=[] A=int ", api.OK},
		{"([n+1, n]A) -> A", "([4, 3]A) -> A", "n=3 A=A ", api.OK},
		{"(A) -> A", "(A, A) -> A", "", api.ErrNone},
		{"(A) -> A", "(int) -> bool", "", api.ErrType},
		{"(int) -> A", "(A) -> int", "", api.ErrType},
		{"([r.., n]A) -> A", "(int) -> int", "", api.ErrRank},
		{"([r.., n]A) -> A", "([r..]int) -> int", "", api.ErrRank},
		{"([r..]A) -> [r..]A", "([n]int) -> [m]int", "", api.ErrRank},
		{"([r..]A) -> [r..]B", "([n]int) -> [n]bool", "r=[n] A=int B=bool ", api.OK},
		{"([n]A) -> A", "([r.., n]int) -> int", "", api.ErrRank},
		{"([n]A) -> A", "([n, m]int) -> int", "", api.ErrRank},
		{"([n, n]A) -> A", "([n, m]int) -> int", "", api.ErrShape},
		{"([2n]A) -> A", "([3]int) -> int", "", api.ErrShape},
		{"([n]A, [n, n]A) -> int", "([n]int, [n]bool) -> int", "", api.ErrType},
		{"([n]A, [n, n]B) -> int", "([n]int, [n]bool) -> int", "", api.ErrRank},
		{"([n]A) -> A where n-2", "([n]A) -> A where n-1", "", api.ErrRange},
		{"([n]A) -> A where n-2", "([n]A) -> A where n-2, n-1", "n=n A=A ", api.OK},
		{"([n]A) -> A where n", "([m-3]A) -> A", "n=m-3 A=A ", api.OK},
		{"([n]A) -> [n-1]A where n-1", "([m]A) -> [m-1]A", "n=m A=A ", api.OK},
		{"(A) -> A where k", "(A) -> A", "k=0 A=A ", api.OK},
		{"(A) -> A where k-1", "(A) -> A", "", api.ErrRange},
		{"([n]A) -> A where 3n", "([500000m]A) -> A", "", api.ErrLimit},
		{"([n]A) -> A where -1, 3n", "([500000m]A) -> A", "", api.ErrLimit},
		{"([n-1000000]A) -> A", "([m+1]A) -> A", "", api.ErrLimit},
		{"([n]A) -> A", "([-1]A) -> A", "n=-1 A=A ", api.OK},
	} {
		l, e := types.Instance(scheme(c.general), scheme(c.special))
		if show(l) != c.want || e != c.e {
			t.Errorf("%d: %s %d", i, show(l), e)
		}
		if e == api.OK {
			under, _ := types.SubstScheme(scheme(c.general), l)
			under.Where = scheme(c.special).Where
			if !types.EqualScheme(under, scheme(c.special)) {
				t.Errorf("%d: %s under the binds", i, text(under))
			}
		}
	}
}

func random(r *rand.Rand) api.Scheme {
	dims := []string{"n", "m", "k+n", "2", "m-1", "2k"}
	var s api.Scheme
	next := func() api.Type {
		t := api.Type{Elem: []string{"int", "A", "B"}[r.Intn(3)]}
		if r.Intn(3) == 0 {
			t.Shape.Row = []string{"r", "s"}[r.Intn(2)]
		}
		for j := r.Intn(3); j > 0; j-- {
			t.Shape.Dims = append(t.Shape.Dims, lin(dims[r.Intn(len(dims))]))
		}
		return t
	}
	for j := r.Intn(3); j >= 0; j-- {
		s.Params = append(s.Params, next())
	}
	s.Result = next()
	for j := r.Intn(3); j > 0; j-- {
		s.Where = append(s.Where, lin([]string{"n-1", "m-n", "k-2", "3"}[r.Intn(4)]))
	}
	return s
}

func TestRandom(t *testing.T) { // P12.4, P12.5, P12.6
	r := rand.New(rand.NewSource(1))
	instances := 0
	for i := 0; i < 20000; i++ {
		s := random(r)
		bare := api.Scheme{Params: s.Params, Result: s.Result}
		canonical, _ := types.Canonical(bare)
		for _, general := range []api.Scheme{bare, canonical} {
			l, e := types.Instance(bare, general)
			if under, _ := types.SubstScheme(bare, l); e != api.OK || !types.EqualScheme(under, general) {
				t.Fatalf("%s and %s: %d", text(bare), text(general), e)
			}
		}
		general := random(r)
		l, e := types.Instance(general, s)
		if e != api.OK {
			continue
		}
		instances++
		under, _ := types.SubstScheme(general, l)
		for p := 0; p < 216; p++ {
			values := []api.Value{{Var: "k", N: p%6 - 1}, {Var: "m", N: p/6%6 - 1}, {Var: "n", N: p/36 - 1}}
			if holds(s.Where, values) && holds(dims(s), values) && !holds(under.Where, values) {
				t.Fatalf("%s is an instance of %s, but %v", text(s), text(general), values)
			}
		}
	}
	if instances < 20 {
		t.Error(instances)
	}
}

func dims(s api.Scheme) []api.Linear {
	l := slices.Clone(s.Result.Shape.Dims)
	for _, p := range s.Params {
		l = append(l, p.Shape.Dims...)
	}
	return l
}

func holds(l []api.Linear, values []api.Value) bool {
	return !slices.ContainsFunc(l, func(e api.Linear) bool {
		n, _ := linear.Eval(e, values)
		return n < 0
	})
}
