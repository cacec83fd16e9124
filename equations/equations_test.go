package equations_test

import (
	"math/rand"
	"slices"
	"testing"

	"framewise/api"
	"framewise/equations"
	"framewise/linear"
)

func parse(t *testing.T, sources ...string) []api.Linear {
	t.Helper()
	var l []api.Linear
	for _, s := range sources {
		e, err := linear.Parse(s)
		if err != api.OK {
			t.Fatalf("%q: %d", s, err)
		}
		l = append(l, e)
	}
	return l
}

func text(binds []api.Bind) string {
	s := ""
	for _, b := range binds {
		s += b.Var + "=" + linear.Print(b.Dim) + " "
	}
	return s
}

func TestSolve(t *testing.T) { // P6.1
	for i, c := range []struct {
		l     []string
		next  int
		want  string
		after int
		e     api.Errno
	}{
		{[]string{"2n+3m-1"}, 1, "m=-2_1-1 n=3_1+2 ", 2, api.OK},
		{nil, 5, "", 5, api.OK},
		{[]string{"0", "0"}, 1, "", 1, api.OK},
		{[]string{"n-m"}, 1, "n=m ", 1, api.OK},
		{[]string{"m-n"}, 1, "n=m ", 1, api.OK},
		{[]string{"_1-n"}, 2, "_1=n ", 2, api.OK},
		{[]string{"_2-_10+n"}, 11, "_10=_2+n ", 11, api.OK},
		{[]string{"2n-6"}, 1, "n=3 ", 1, api.OK},
		{[]string{"n-m", "m-3"}, 1, "m=3 n=3 ", 1, api.OK},
		{[]string{"a+b+c", "a-b"}, 1, "b=a c=-2a ", 1, api.OK},
		{[]string{"5n-3m"}, 7, "m=-5_7 n=-3_7 ", 8, api.OK},
		{[]string{"1"}, 1, "", 0, api.ErrNone},
		{[]string{"2n-4m+1", "0"}, 1, "", 0, api.ErrNone},
		{[]string{"n-m", "m-n+1"}, 1, "", 0, api.ErrNone},
		{[]string{"n"}, 0, "", 0, api.ErrArg},
		{[]string{"n"}, 1000000000, "", 0, api.ErrArg},
		{[]string{"_3"}, 3, "", 0, api.ErrArg},
		{[]string{"_3"}, 4, "_3=0 ", 4, api.OK},
		{[]string{"2n-3m"}, 999999999, "", 0, api.ErrLimit},
		{[]string{"n-m"}, 999999999, "n=m ", 999999999, api.OK},
		{[]string{"n-1000000m", "k-2n"}, 1, "", 0, api.ErrLimit},
		{[]string{"n-m", "1", "n-1000000m", "k-2n"}, 1, "", 0, api.ErrNone},
		{[]string{"k-2n", "n-1000000m", "1"}, 1, "", 0, api.ErrLimit},
	} {
		binds, after, r, e := equations.Solve(parse(t, c.l...), c.next)
		if text(binds) != c.want || after != c.after || e != c.e || e != api.ErrNone && (r.Mults != nil || r.Mod != 0) {
			t.Errorf("%d: %s %d %v %d", i, text(binds), after, r, e)
		}
		if e == api.ErrNone && !equations.Check(parse(t, c.l...), r) {
			t.Errorf("%d: the refutation %v", i, r)
		}
	}
	if _, _, _, e := equations.Solve(make([]api.Linear, 6001), 1); e != api.ErrLimit {
		t.Error("too many equations")
	}
	bad := []api.Linear{{Const: api.MaxCoef + 1}}
	if _, _, _, e := equations.Solve(append(make([]api.Linear, 6001), bad...), 1); e != api.ErrArg {
		t.Error("an equation that is not valid")
	}
}

func random(r *rand.Rand, n int) []api.Linear {
	var l []api.Linear
	for i := 0; i < n; i++ {
		e := api.Linear{Const: r.Intn(9) - 4}
		for _, v := range []string{"_1", "k", "m", "n"} {
			if c := r.Intn(9) - 4; c != 0 && r.Intn(3) > 0 {
				e.Terms = append(e.Terms, api.Coef{Var: v, C: c})
			}
		}
		l = append(l, e)
	}
	return l
}

// points calls f with the values of all points of a small box.
func points(f func([]api.Value)) {
	for i := 0; i < 2401; i++ {
		f([]api.Value{{Var: "_1", N: i%7 - 3}, {Var: "k", N: i/7%7 - 3}, {Var: "m", N: i/49%7 - 3}, {Var: "n", N: i/343 - 3}})
	}
}

func TestRandom(t *testing.T) { // P6.2, P6.3, P6.4
	r := rand.New(rand.NewSource(1))
	solved, refuted := 0, 0
	for i := 0; i < 600; i++ {
		l := random(r, r.Intn(5))
		binds, after, ref, e := equations.Solve(l, 2)
		if e == api.ErrNone {
			refuted++
			if !equations.Check(l, ref) {
				t.Fatalf("%v has the refutation %v", l, ref)
			}
			points(func(v []api.Value) {
				if equations.Holds(l, v) {
					t.Fatalf("%v is satisfied by %v", l, v)
				}
			})
			continue
		}
		if e != api.OK {
			t.Fatalf("%v: %d", l, e)
		}
		solved++
		for _, q := range l {
			if s, e := linear.Subst(q, binds); !linear.Equal(s, api.Linear{}) || e != api.OK {
				t.Fatalf("%v under %s", q, text(binds))
			}
		}
		var rest []api.Linear
		for _, b := range binds {
			e, _ := linear.Sub(linear.Var(b.Var), b.Dim)
			rest = append(rest, e)
		}
		points(func(v []api.Value) {
			if !equations.Holds(l, v) {
				return
			}
			// The values of the fresh names exist exactly if what is left for them has a solution.
			fixed := make([]api.Linear, len(rest))
			for j, q := range rest {
				var as []api.Bind
				for _, w := range v {
					as = append(as, api.Bind{Kind: api.DimVar, Var: w.Var, Dim: linear.Of(w.N)})
				}
				fixed[j], _ = linear.Subst(q, as)
			}
			if _, _, _, e := equations.Solve(fixed, after); e != api.OK {
				t.Fatalf("%v is satisfied by %v, but not %s", l, v, text(binds))
			}
		})
	}
	if solved < 50 || refuted < 50 {
		t.Errorf("%d %d", solved, refuted)
	}
}

func TestSame(t *testing.T) { // P6.5
	r := rand.New(rand.NewSource(2))
	for i := 0; i < 500; i++ {
		l := random(r, 3)
		binds, _, _, e := equations.Solve(l, 2)
		k, _ := linear.Scale(l[1], []int{-1, 3, -5}[r.Intn(3)])
		again, _, _, f := equations.Solve([]api.Linear{l[0], {}, k, l[0], l[2], k}, 2)
		if text(binds) != text(again) || e != f {
			t.Fatalf("%v: %s, then %s", l, text(binds), text(again))
		}
	}
}

func TestCheck(t *testing.T) { // P6.4
	l := parse(t, "2n-4m+1", "0", "3n")
	for i, c := range []struct {
		mults []int
		mod   int
		want  bool
	}{
		{[]int{1, 0, 0}, 2, true}, {[]int{1, 1, 0}, 2, true}, {[]int{-1, 0, 2}, 2, true}, {[]int{1, 0, 0}, 0, false}, {[]int{1, 0, 0}, 1, false}, {[]int{2, 0, 0}, 2, false}, {[]int{1, 0, 1}, 2, false}, {[]int{1, 0}, 2, false}, {[]int{1, 0, 0, 0}, 2, false}, {[]int{1, 0, 0}, -2, false}, {nil, 0, false},
		{[]int{1<<40 - 1, 1 << 40, 0}, 2, true}, {[]int{1, 1<<40 + 1, 0}, 2, false}, {[]int{1, -1<<40 - 1, 0}, 2, false}, {[]int{0, 0, 0}, 1 << 41, false},
	} {
		if equations.Check(l, equations.Refutation{Mults: c.mults, Mod: c.mod}) != c.want {
			t.Errorf("%d: %v", i, c)
		}
	}
	if equations.Check([]api.Linear{{Const: 1, Terms: []api.Coef{{Var: "A", C: 2}}}}, equations.Refutation{Mults: []int{1}, Mod: 2}) {
		t.Error("an expression that is not valid")
	}
	if equations.Check(nil, equations.Refutation{}) || equations.Check(nil, equations.Refutation{Mod: 3}) {
		t.Error("nothing is refuted")
	}
	// The sum is beyond the range of layer 3, so it has an error.
	var great []api.Linear
	var mults []int
	for i := 0; i < 5; i++ {
		great, mults = append(great, api.Linear{Const: api.MaxCoef}), append(mults, 1<<40)
	}
	if !equations.Check(great[:4], equations.Refutation{Mults: mults[:4]}) || equations.Check(great, equations.Refutation{Mults: mults}) {
		t.Error("the range of sums")
	}
}

func TestMatch(t *testing.T) { // P6.1, P6.6
	for i, c := range []struct {
		patterns, targets []string
		want              string
		e                 api.Errno
	}{
		{[]string{"n+1", "n+m"}, []string{"k", "3k"}, "m=2k+1 n=k-1 ", api.OK},
		{[]string{"n"}, []string{"n+1"}, "n=n+1 ", api.OK},
		{[]string{"n+m"}, []string{"n+m"}, "m=0 n=m+n ", api.OK},
		{[]string{"2n"}, []string{"2k+4"}, "n=k+2 ", api.OK},
		{[]string{"2n"}, []string{"k"}, "", api.ErrNone},
		{[]string{"2n"}, []string{"3"}, "", api.ErrNone},
		{[]string{"n", "n"}, []string{"k", "k+1"}, "", api.ErrNone},
		{[]string{"_5"}, []string{"_1"}, "_5=_1 ", api.OK},
		{[]string{"3"}, []string{"3"}, "", api.OK},
		{[]string{"3"}, []string{"n"}, "", api.ErrNone},
		{nil, nil, "", api.OK},
		{[]string{"n"}, nil, "", api.ErrShape},
		{[]string{"_999999999"}, []string{"n"}, "", api.ErrLimit},
		{[]string{"n-1000000"}, []string{"1"}, "", api.ErrLimit},
		{[]string{"n-1000000", "1"}, []string{"1", "n"}, "", api.ErrLimit},
		{[]string{"n", "n+m"}, []string{"a+b+c+d+e+f", "g+h+i+j+k+l+m"}, "", api.ErrLimit},
		{[]string{"n+m+k", "n-m"}, []string{"a", "b"}, "k=a-b m=0 n=b ", api.OK},
	} {
		binds, e := equations.Match(parse(t, c.patterns...), parse(t, c.targets...))
		if text(binds) != c.want || e != c.e {
			t.Errorf("%d: %s %d", i, text(binds), e)
		}
	}
	bad := []api.Linear{linear.Var("N")}
	if _, e := equations.Match(bad, nil); e != api.ErrArg {
		t.Error("a pattern that is not valid")
	}
	if _, e := equations.Match(nil, bad); e != api.ErrArg {
		t.Error("a target that is not valid")
	}
	if _, e := equations.Match(nil, make([]api.Linear, 6001)); e != api.ErrArg {
		t.Error("too many targets")
	}
	r := rand.New(rand.NewSource(3))
	found := 0
	for i := 0; i < 2000; i++ {
		p, q := random(r, 2), random(r, 2)
		binds, e := equations.Match(p, q)
		if e != api.OK {
			continue
		}
		found++
		for j := range p {
			if s, e := linear.Subst(p[j], binds); !linear.Equal(s, q[j]) || e != api.OK {
				t.Fatalf("%v under %s is not %v", p[j], text(binds), q[j])
			}
		}
	}
	if found < 100 {
		t.Error(found)
	}
}

func TestHolds(t *testing.T) { // P6.1
	l := parse(t, "n-m", "n-3")
	values := []api.Value{{Var: "n", N: 3}, {Var: "m", N: 3}}
	if !equations.Holds(l, values) || equations.Holds(append(l, parse(t, "m")...), values) || equations.Holds(l, values[:1]) || !equations.Holds(nil, nil) {
		t.Error("Holds")
	}
	if equations.Holds([]api.Linear{{Terms: []api.Coef{{Var: "n"}}}}, values) {
		t.Error("an expression that is not valid")
	}
}

func TestNoSharing(t *testing.T) {
	l := parse(t, "n-m-k", "j-n")
	before := slices.Clone(l[0].Terms)
	binds, _, _, _ := equations.Solve(l, 1)
	for i := range binds {
		for j := range binds[i].Dim.Terms {
			binds[i].Dim.Terms[j].C = 99
		}
	}
	if !slices.Equal(before, l[0].Terms) || text(binds[:1]) == text(binds[1:]) && binds[0].Var == binds[1].Var {
		t.Error("memory is shared")
	}
}
