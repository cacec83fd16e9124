package poly_test

import (
	"math"
	"math/rand"
	"slices"
	"strings"
	"testing"

	"framewise/api"
	"framewise/linear"
	"framewise/poly"
)

func parse(t *testing.T, s string) api.Poly {
	t.Helper()
	p, e := poly.Parse(s)
	if e != api.OK {
		t.Fatalf("%q: %d", s, e)
	}
	return p
}

func mono(n int, vars ...string) api.Monomial { return api.Monomial{Coef: n, Vars: vars} }

// many returns a polynomial with n monomials.
func many(n int) api.Poly {
	var p api.Poly
	for i := 0; i < n; i++ {
		p = append(p, mono(1, string([]byte{'a' + byte(i/26), 'a' + byte(i%26)})))
	}
	return p
}

func random(r *rand.Rand) api.Poly {
	var p api.Poly
	for i := r.Intn(5); i > 0; i-- {
		m := mono(r.Intn(9) - 4)
		for j := r.Intn(3); j > 0; j-- {
			m.Vars = append(m.Vars, []string{"n", "m", "k", "_1"}[r.Intn(4)])
		}
		slices.Sort(m.Vars)
		if s, e := poly.Add(p, api.Poly{m}); e == api.OK {
			p = s
		}
	}
	return p
}

func TestValid(t *testing.T) { // P5.1
	for i, c := range []struct {
		p    api.Poly
		want bool
	}{
		{nil, true}, {api.Poly{mono(poly.MaxCoef)}, true}, {api.Poly{mono(-poly.MaxCoef, "n")}, true}, {api.Poly{mono(poly.MaxCoef + 1)}, false}, {api.Poly{mono(math.MinInt)}, false}, {api.Poly{mono(0)}, false},
		{api.Poly{mono(1, "a", "a", "b")}, true}, {api.Poly{mono(1, "b", "a")}, false}, {api.Poly{mono(1, "A")}, false}, {api.Poly{mono(1, strings.Split("a,a,a,a,a,a,a,a", ",")...)}, true}, {api.Poly{mono(1, strings.Split("a,a,a,a,a,a,a,a,a", ",")...)}, false},
		{api.Poly{mono(1), mono(1, "a"), mono(1, "a", "b"), mono(1, "ab")}, true}, {api.Poly{mono(1, "ab"), mono(1, "a", "b")}, false}, {api.Poly{mono(1, "a"), mono(1, "a")}, false}, {many(60), true}, {many(61), false},
	} {
		if poly.Valid(c.p) != c.want {
			t.Errorf("%d: %v", i, c.p)
		}
	}
}

func TestRing(t *testing.T) { // P5.2, P5.3, P5.6
	r := rand.New(rand.NewSource(1))
	values := []api.Value{{Var: "n", N: 3}, {Var: "m", N: -2}, {Var: "k", N: 5}, {Var: "_1", N: 7}, {Var: "n", N: 9}}
	value := func(p api.Poly, e api.Errno) int {
		n, f := poly.Eval(p, values)
		if e != api.OK || f != api.OK {
			t.Fatalf("%v: %d %d", p, e, f)
		}
		return n
	}
	must := func(p api.Poly, e api.Errno) api.Poly {
		if e != api.OK || !poly.Valid(p) {
			t.Fatalf("%v: %d", p, e)
		}
		return p
	}
	zero, one := must(poly.Number(0)), must(poly.Number(1))
	for i := 0; i < 2000; i++ {
		a, b, c := random(r), random(r), random(r)
		ab := must(poly.Add(a, b))
		if !poly.Equal(ab, must(poly.Add(b, a))) || !poly.Equal(must(poly.Add(ab, c)), must(poly.Add(a, must(poly.Add(b, c))))) || !poly.Equal(must(poly.Sub(ab, b)), a) {
			t.Fatalf("sums of %v %v %v", a, b, c)
		}
		if !poly.Equal(must(poly.Add(a, zero)), a) || !poly.Equal(must(poly.Mul(a, one)), a) || len(must(poly.Mul(a, zero))) != 0 {
			t.Fatalf("neutral numbers for %v", a)
		}
		product := must(poly.Mul(a, b))
		if !poly.Equal(product, must(poly.Mul(b, a))) || !poly.Equal(must(poly.Mul(product, c)), must(poly.Mul(a, must(poly.Mul(b, c))))) {
			t.Fatalf("products of %v %v %v", a, b, c)
		}
		if !poly.Equal(must(poly.Mul(a, must(poly.Add(b, c)))), must(poly.Add(product, must(poly.Mul(a, c))))) {
			t.Fatalf("%v %v %v", a, b, c)
		}
		if value(poly.Add(a, b)) != value(a, 0)+value(b, 0) || value(poly.Mul(a, b)) != value(a, 0)*value(b, 0) || value(poly.Scale(a, -3)) != -3*value(a, 0) {
			t.Fatalf("values of %v %v", a, b)
		}
		if len(a) > 0 && len(b) > 0 && poly.Degree(product) != poly.Degree(a)+poly.Degree(b) {
			t.Fatalf("degrees of %v %v", a, b)
		}
	}
}

func randomLinear(r *rand.Rand) api.Linear {
	l := api.Linear{Const: r.Intn(9) - 4}
	for _, v := range []string{"k", "m", "n"} {
		if c := r.Intn(5) - 2; c != 0 {
			l.Terms = append(l.Terms, api.Coef{Var: v, C: c})
		}
	}
	return l
}

func TestLinear(t *testing.T) { // P5.4
	r := rand.New(rand.NewSource(2))
	values := []api.Value{{Var: "n", N: 3}, {Var: "m", N: -2}, {Var: "k", N: 5}}
	for i := 0; i < 1000; i++ {
		a, b, c := randomLinear(r), randomLinear(r), randomLinear(r)
		x, _ := linear.Eval(a, values)
		y, _ := linear.Eval(b, values)
		z, _ := linear.Eval(c, values)
		p, e := poly.Of(a)
		if n, _ := poly.Eval(p, values); n != x || e != api.OK {
			t.Fatalf("%v", a)
		}
		q, _ := poly.Of(b)
		ab, _ := linear.Sub(a, b)
		d, _ := poly.Of(ab)
		if s, _ := poly.Sub(p, q); !poly.Equal(s, d) {
			t.Fatalf("%v %v", a, b)
		}
		product, e := poly.Product([]api.Linear{a, b, c})
		if n, _ := poly.Eval(product, values); n != x*y*z || e != api.OK {
			t.Fatalf("%v %v %v", a, b, c)
		}
	}
	if p, e := poly.Product(nil); poly.Print(p) != "1" || e != api.OK {
		t.Error("the product of nothing")
	}
}

func TestSubst(t *testing.T) { // P5.3
	r := rand.New(rand.NewSource(3))
	values := []api.Value{{Var: "n", N: 3}, {Var: "m", N: -2}, {Var: "k", N: 5}, {Var: "_1", N: 7}}
	for i := 0; i < 1000; i++ {
		p := random(r)
		binds := []api.Bind{{Kind: api.RowVar, Var: "n"}, {Kind: api.DimVar, Var: "n", Dim: randomLinear(r)}, {Kind: api.DimVar, Var: "m", Dim: randomLinear(r)}, {Kind: api.DimVar, Var: "n"}, {Kind: api.DimVar, Var: "A", Dim: linear.Var("A")}}
		q, e := poly.Subst(p, binds)
		if e != api.OK {
			t.Fatalf("%v: %d", p, e)
		}
		n, _ := linear.Eval(binds[1].Dim, values)
		m, _ := linear.Eval(binds[2].Dim, values)
		want, _ := poly.Eval(p, []api.Value{{Var: "n", N: n}, {Var: "m", N: m}, {Var: "k", N: 5}, {Var: "_1", N: 7}})
		if got, _ := poly.Eval(q, values); got != want {
			t.Fatalf("%v under %v: %v", p, binds, q)
		}
	}
	bad := []api.Bind{{Kind: api.DimVar, Var: "a", Dim: linear.Var("A")}}
	if _, e := poly.Subst(parse(t, "1+a"), bad); e != api.ErrArg {
		t.Error("a Dim that is used")
	}
	if p, e := poly.Subst(parse(t, "1+b"), bad); e != api.OK || poly.Print(p) != "1+b" {
		t.Error("a Dim that is not used")
	}
	great := []api.Bind{{Kind: api.DimVar, Var: "a", Dim: linear.Of(api.MaxCoef)}}
	if _, e := poly.Subst(parse(t, "a^3"), great); e != api.ErrLimit {
		t.Error("a product on the way")
	}
	if p, e := poly.Subst(parse(t, "1000*a-1000*b"), append(great, api.Bind{Kind: api.DimVar, Var: "b", Dim: linear.Of(api.MaxCoef)})); e != api.OK || len(p) != 0 {
		t.Error("what stands for two variables")
	}
}

func TestEval(t *testing.T) { // P5.1
	values := []api.Value{{Var: "a", N: 1 << 62}, {Var: "b", N: 1<<62 + 1}, {Var: "z", N: 0}, {Var: "c", N: -1 << 40}}
	for s, want := range map[string]struct {
		n int
		e api.Errno
	}{
		"a": {1 << 62, api.OK}, "-a": {-1 << 62, api.OK}, "2*a": {0, api.ErrRange}, "a^2*z": {0, api.OK}, "b*z": {0, api.ErrRange}, "b+x": {0, api.ErrName}, "2*a-2*a*z": {0, api.ErrRange}, "a+c": {1<<62 - 1<<40, api.OK}, "1+a": {0, api.ErrRange}, "0": {0, api.OK}, "3+c": {3 - 1<<40, api.OK}, "c^2": {0, api.ErrRange}, "-a+a*c*z": {-1 << 62, api.OK},
	} {
		n, e := poly.Eval(parse(t, s), values)
		if n != want.n || e != want.e {
			t.Errorf("%s: %d %d", s, n, e)
		}
	}
}

func TestLimits(t *testing.T) { // P5.1
	bad, full := api.Poly{mono(0)}, many(60)
	a4, a5 := parse(t, "a^4"), parse(t, "a^5")
	top := parse(t, "1099511627776*a-1099511627776*b")
	for i, c := range []struct {
		f    func() (api.Poly, api.Errno)
		want string
		e    api.Errno
	}{
		{func() (api.Poly, api.Errno) { return poly.Number(poly.MaxCoef) }, "1099511627776", api.OK},
		{func() (api.Poly, api.Errno) { return poly.Number(poly.MaxCoef + 1) }, "", api.ErrLimit},
		{func() (api.Poly, api.Errno) { return poly.Number(math.MinInt) }, "", api.ErrLimit},
		{func() (api.Poly, api.Errno) { return poly.Of(linear.Var("A")) }, "", api.ErrArg},
		{func() (api.Poly, api.Errno) { return poly.Add(bad, full) }, "", api.ErrArg},
		{func() (api.Poly, api.Errno) { return poly.Add(full, bad) }, "", api.ErrArg},
		{func() (api.Poly, api.Errno) { return poly.Add(full, parse(t, "zz")) }, "", api.ErrLimit},
		{func() (api.Poly, api.Errno) { return poly.Sub(full, full) }, "0", api.OK},
		{func() (api.Poly, api.Errno) { return poly.Scale(bad, 0) }, "", api.ErrArg},
		{func() (api.Poly, api.Errno) { return poly.Scale(nil, math.MinInt) }, "0", api.OK},
		{func() (api.Poly, api.Errno) { return poly.Scale(a4, math.MinInt) }, "", api.ErrLimit},
		{func() (api.Poly, api.Errno) { return poly.Scale(full, 0) }, "0", api.OK},
		{func() (api.Poly, api.Errno) { return poly.Mul(a4, a4) }, "a^8", api.OK},
		{func() (api.Poly, api.Errno) { return poly.Mul(a4, a5) }, "", api.ErrLimit},
		{func() (api.Poly, api.Errno) { return poly.Mul(a4, bad) }, "", api.ErrArg},
		{func() (api.Poly, api.Errno) { return poly.Mul(full, full) }, "", api.ErrLimit},
		{func() (api.Poly, api.Errno) { return poly.Mul(top, top) }, "", api.ErrLimit},
		{func() (api.Poly, api.Errno) { return poly.Product([]api.Linear{linear.Of(0), linear.Var("A")}) }, "", api.ErrArg},
		{func() (api.Poly, api.Errno) {
			return poly.Product([]api.Linear{linear.Of(1000000), linear.Of(1000000), linear.Of(1000000), linear.Of(0)})
		}, "1000000000000000000", api.ErrLimit},
		{func() (api.Poly, api.Errno) {
			return poly.Product([]api.Linear{linear.Of(0), linear.Of(1000000), linear.Of(1000000), linear.Of(1000000)})
		}, "0", api.OK},
		{func() (api.Poly, api.Errno) { return poly.Subst(bad, nil) }, "", api.ErrArg},
	} {
		p, e := c.f()
		if e != c.e || e == api.OK && poly.Print(p) != c.want || e != api.OK && p != nil {
			t.Errorf("%d: %v %d", i, p, e)
		}
	}
	if poly.Vars(bad) != nil || poly.Degree(append(bad, mono(1, "a"))) != 0 || poly.Print(bad) != "" {
		t.Error("polynomials that are not valid")
	}
	if _, e := poly.Eval(bad, nil); e != api.ErrArg {
		t.Error("Eval")
	}
	if !slices.Equal(poly.Vars(parse(t, "1+b*c+c^2")), []string{"b", "c"}) || poly.Degree(parse(t, "1+b*c+c")) != 2 {
		t.Error("Vars and Degree")
	}
	if !poly.Equal(api.Poly{}, nil) || !poly.Equal(api.Poly{{Coef: 1, Vars: []string{}}}, api.Poly{{Coef: 1}}) || poly.Equal(bad, nil) || poly.Equal(parse(t, "a"), parse(t, "2*a")) {
		t.Error("Equal")
	}
}

func TestCancelled(t *testing.T) { // P5.1: sums on the way to a coefficient may be greater than all limits
	a, b := parse(t, "1099511627776*a+1099511627776*b"), parse(t, "1099511627775*a-1099511627775*b")
	if _, e := poly.Mul(a, b); e != api.ErrLimit {
		t.Error("a great product")
	}
	p, e := poly.Mul(parse(t, "1099511627776*a+b"), parse(t, "a-1099511627776*b"))
	if e != api.ErrLimit {
		t.Errorf("%v %d", p, e)
	}
	if p, e := poly.Mul(parse(t, "1048576*a+1048576*b"), parse(t, "1048576*a-1048576*b")); e != api.OK || poly.Print(p) != "1099511627776*a^2-1099511627776*b^2" {
		t.Errorf("%v %d", p, e)
	}
}

func TestTexts(t *testing.T) { // P5.5
	r := rand.New(rand.NewSource(4))
	for i := 0; i < 2000; i++ {
		p := random(r)
		q, e := poly.Parse(poly.Print(p))
		if !poly.Equal(p, q) || e != api.OK {
			t.Fatalf("%v has the text %q", p, poly.Print(p))
		}
	}
	for _, s := range []string{"0", "-3+2*m*n^2", "-1+n^2", "n", "-n", "1", "-1-_1*n", "a^8", "2*a*b-3*ab"} {
		if poly.Print(parse(t, s)) != s {
			t.Errorf("%q", s)
		}
	}
	for _, s := range []string{"", "+n", "--n", "n-", "-", "00", "01", "-0", "0*n", "1*n", "n*2", "2n", "n^1", "n^0", "n^9", "n^02", "n^", "n^+2", "n*n", "n+m", "m*n+m*n", "n*m", "2*3", "n+1", "n +m", "N", "n**m", "*n", "n*", "1099511627777", "99999999999999999999", "3^2", "n^2^2", "1+0", "4503599627370496*4096"} {
		if p, e := poly.Parse(s); p != nil || e != api.ErrSyntax {
			t.Errorf("%q: %v %d", s, p, e)
		}
	}
	if _, e := poly.Parse(strings.Repeat("a+", 1000000)); e != api.ErrSyntax {
		t.Error("a long text")
	}
}
