package entail_test

import (
	"math/rand"
	"testing"

	"framewise/api"
	"framewise/certificate"
	"framewise/entail"
	"framewise/linear"
)

func lins(sources ...string) []api.Linear {
	var l []api.Linear
	for _, s := range sources {
		e, err := linear.Parse(s)
		if err != api.OK {
			panic(s)
		}
		l = append(l, e)
	}
	return l
}

func proves(t *testing.T, hyps []api.Linear, goal api.Linear) bool { // P9.2
	t.Helper()
	c, ok := entail.Proves(hyps, goal)
	if ok && certificate.Proves(hyps, goal, c) != api.OK || !ok && c.Kind != 0 {
		t.Fatalf("%v %v: %v", hyps, goal, c)
	}
	return ok
}

func TestProves(t *testing.T) { // P9.1
	for i, c := range []struct {
		hyps []string
		goal string
		want bool
	}{
		{[]string{"n-1", "m-n"}, "m-1", true}, {[]string{"n-1", "m-n"}, "m-2", false}, {nil, "0", true}, {nil, "-1", false}, {nil, "n", false}, {[]string{"-1"}, "n", true}, {nil, "1000000", false}, {[]string{"2n-1"}, "n-1", true}, {[]string{"n"}, "1000000+n", false}, {[]string{"n"}, "999999+n", true},
	} {
		if proves(t, lins(c.hyps...), lins(c.goal)[0]) != c.want {
			t.Errorf("%d", i)
		}
	}
	bad := []api.Linear{linear.Var("N")}
	if _, ok := entail.Proves(bad, linear.Of(0)); ok {
		t.Error("a hypothesis that is not valid")
	}
	if _, ok := entail.Proves(nil, bad[0]); ok {
		t.Error("a goal that is not valid")
	}
	if !proves(t, make([]api.Linear, 99), linear.Of(0)) || proves(t, make([]api.Linear, 100), linear.Of(0)) {
		t.Error("the number of hypotheses")
	}
}

func TestOthers(t *testing.T) { // P9.1
	hyps := lins("n", "m-n", "n-m")
	if !entail.All(hyps, lins("m", "n+m")) || entail.All(hyps, lins("m", "m-1")) || !entail.All(nil, nil) {
		t.Error("All")
	}
	if !entail.Same(hyps, lins("n")[0], lins("m")[0]) || entail.Same(hyps, lins("n")[0], lins("m+1")[0]) || entail.Same(nil, lins("1000000")[0], lins("-1000000")[0]) || entail.Same(nil, linear.Var("N"), linear.Var("N")) {
		t.Error("Same")
	}
	if !entail.Possible(hyps) || entail.Possible(lins("n", "-n-1")) || !entail.Possible([]api.Linear{linear.Of(-1), linear.Var("N")}) || !entail.Possible(nil) {
		t.Error("Possible")
	}
}

func same(a, b []api.Linear) bool {
	if len(a) != len(b) {
		return false
	}
	for i := range a {
		if !linear.Equal(a[i], b[i]) {
			return false
		}
	}
	return true
}

func TestReduce(t *testing.T) { // P9.1, P9.5
	for i, c := range []struct{ hyps, want []string }{
		{[]string{"n", "m", "n+m"}, []string{"n", "m"}}, {[]string{"n+m", "n", "m"}, []string{"n", "m"}}, {[]string{"n", "n"}, []string{"n"}}, {[]string{"0"}, nil}, {nil, nil}, {[]string{"n-1", "n-2", "n"}, []string{"n-2"}},
	} {
		if got := entail.Reduce(lins(c.hyps...)); !same(got, lins(c.want...)) {
			t.Errorf("%d: %v", i, got)
		}
	}
	if got := entail.Reduce(make([]api.Linear, 31)); len(got) != 31 {
		t.Error("31 hypotheses")
	}
	if got := entail.Reduce(make([]api.Linear, 30)); len(got) != 0 {
		t.Error("30 hypotheses")
	}
	bad := lins("n", "n")
	bad[1].Terms[0].C = 0
	got := entail.Reduce(bad)
	if len(got) != 2 {
		t.Error("a hypothesis that is not valid")
	}
	got[0].Terms[0].C = 9
	if bad[0].Terms[0].C != 1 {
		t.Error("memory is shared")
	}
}

func random(r *rand.Rand) api.Linear {
	l := api.Linear{Const: r.Intn(19) - 9}
	for _, v := range []string{"m", "n"} {
		if c := r.Intn(19) - 9; c != 0 {
			l.Terms = append(l.Terms, api.Coef{Var: v, C: c})
		}
	}
	return l
}

// holds reports whether a goal is at least 0 for all points of the box that satisfy hypotheses.
func holds(hyps []api.Linear, goal api.Linear) bool {
	for p := 0; p < 81; p++ {
		values := []api.Value{{Var: "m", N: p % 9}, {Var: "n", N: p / 9}}
		all := true
		for _, h := range hyps {
			n, _ := linear.Eval(h, values)
			all = all && n >= 0
		}
		if n, _ := linear.Eval(goal, values); all && n < 0 {
			return false
		}
	}
	return true
}

func TestBoxes(t *testing.T) { // P9.3, P9.4, P9.5, P9.6
	r := rand.New(rand.NewSource(1))
	box := lins("m", "-m+8", "n", "-n+8")
	proved := 0
	for i := 0; i < 2000; i++ {
		hyps := box
		for j := r.Intn(3); j > 0; j-- {
			hyps = append(hyps[:len(hyps):len(hyps)], random(r))
		}
		if i%2 == 0 { // the limits are among up to four hypotheses only if there are no others
			hyps = box
		}
		goal := random(r)
		if i%3 == 0 {
			goal.Const += r.Intn(80)
			goal.Const = min(goal.Const, 9)
		}
		ok := proves(t, hyps, goal)
		if ok != holds(hyps, goal) {
			t.Fatalf("%v %v: %v", hyps, goal, ok)
		}
		if ok {
			proved++
		}
		reduced := entail.Reduce(hyps)
		for j := range reduced {
			others := append(append([]api.Linear{}, reduced[:j]...), reduced[j+1:]...)
			if proves(t, others, reduced[j]) {
				t.Fatalf("%v is reduced to %v", hyps, reduced)
			}
		}
		for _, h := range hyps {
			more, _ := linear.Add(h, linear.Of(r.Intn(3)))
			if !proves(t, hyps, h) || !proves(t, hyps, more) || !proves(t, reduced, h) {
				t.Fatalf("%v: %v", hyps, h)
			}
		}
		a, b := random(r), random(r)
		ab, _ := linear.Sub(a, b)
		ba, _ := linear.Sub(b, a)
		if entail.Same(hyps, a, b) != (proves(t, hyps, ab) && proves(t, hyps, ba)) {
			t.Fatalf("%v: %v %v", hyps, a, b)
		}
	}
	if proved < 100 {
		t.Error(proved)
	}
}
