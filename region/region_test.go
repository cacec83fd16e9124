package region_test

import (
	"math"
	"math/rand"
	"slices"
	"testing"

	"framewise/api"
	"framewise/certificate"
	"framewise/linear"
	"framewise/poly"
	"framewise/region"
)

func lin(s string) api.Linear {
	l, e := linear.Parse(s)
	if e != api.OK {
		panic(s)
	}
	return l
}

func pol(s string) api.Poly {
	p, e := poly.Parse(s)
	if e != api.OK {
		panic(s)
	}
	return p
}

func facts(sources ...string) []api.Fact {
	var l []api.Fact
	for _, s := range sources {
		l = append(l, api.Fact{L: lin(s)})
	}
	return l
}

var square = region.Box{Vars: []string{"n", "m"}, Most: 3}

func TestExamples(t *testing.T) { // P10.1
	l := facts("n-m-1")
	if n, e := region.Count(square, l); n != 6 || e != api.OK {
		t.Errorf("%d %d", n, e)
	}
	if n, e := region.Least(square, l, lin("2n+m")); n != 2 || e != api.OK {
		t.Errorf("%d %d", n, e)
	}
	if n, e := region.Greatest(square, l, lin("2n+m")); n != 8 || e != api.OK {
		t.Errorf("%d %d", n, e)
	}
	if n, e := region.Sum(square, l, pol("m*n")); n != 11 || e != api.OK {
		t.Errorf("%d %d", n, e)
	}
	points, e := region.Points(square, facts("n-m-2"))
	if !slices.EqualFunc(points, [][]int{{2, 0}, {3, 0}, {3, 1}}, slices.Equal) || e != api.OK {
		t.Errorf("%v", points)
	}
	none := region.Box{Most: math.MaxInt}
	if points, e := region.Points(none, nil); len(points) != 1 || len(points[0]) != 0 || e != api.OK {
		t.Errorf("%v", points)
	}
	if n, e := region.Sum(none, nil, pol("7")); n != 7 || e != api.OK {
		t.Errorf("%d %d", n, e)
	}
}

func TestValid(t *testing.T) { // P10.1
	for i, c := range []struct {
		b    region.Box
		want bool
	}{
		{square, true}, {region.Box{}, true}, {region.Box{Most: -1}, false}, {region.Box{Vars: []string{"n"}, Most: 19999}, true}, {region.Box{Vars: []string{"n"}, Most: 20000}, false}, {region.Box{Vars: []string{"n", "m"}, Most: 140}, true}, {region.Box{Vars: []string{"n", "m"}, Most: 141}, false}, {region.Box{Vars: []string{"n", "n"}}, false}, {region.Box{Vars: []string{"N"}}, false}, {region.Box{Vars: []string{"n"}, Most: math.MaxInt}, false}, {region.Box{Vars: []string{"_1", "a", "b", "c", "d", "e", "f", "g", "h", "i", "j", "k", "l", "m"}, Most: 1}, true}, {region.Box{Vars: []string{"_1", "a", "b", "c", "d", "e", "f", "g", "h", "i", "j", "k", "l", "m", "n"}, Most: 1}, false},
	} {
		if region.Valid(c.b) != c.want {
			t.Errorf("%d", i)
		}
	}
	if v := region.Values(square, []int{5}); !slices.Equal(v, []api.Value{{Var: "n", N: 5}}) {
		t.Errorf("%v", v)
	}
	if v := region.Values(square, []int{5, -6, 7}); !slices.Equal(v, []api.Value{{Var: "n", N: 5}, {Var: "m", N: -6}}) {
		t.Errorf("%v", v)
	}
}

func TestErrors(t *testing.T) { // P10.1
	bad := []api.Fact{{L: linear.Var("N")}}
	for i, c := range []struct {
		b     region.Box
		facts []api.Fact
		l     api.Linear
		p     api.Poly
		want  [5]api.Errno // Points, Count, Least, Greatest, Sum
	}{
		{region.Box{Most: -1}, facts("k"), lin("k"), pol("k"), [5]api.Errno{1, 1, 1, 1, 1}},
		{square, append(facts("k"), bad...), lin("k"), pol("k"), [5]api.Errno{1, 1, 1, 1, 1}},
		{square, facts("k"), lin("n"), pol("n"), [5]api.Errno{7, 7, 7, 7, 7}},
		{square, facts("k"), linear.Var("N"), api.Poly{{}}, [5]api.Errno{7, 7, 1, 1, 1}},
		{square, facts("n-4"), lin("k"), pol("k"), [5]api.Errno{0, 0, 7, 7, 7}},
		{square, facts("n-4"), lin("n"), pol("n"), [5]api.Errno{0, 0, 9, 9, 0}},
	} {
		_, e0 := region.Points(c.b, c.facts)
		_, e1 := region.Count(c.b, c.facts)
		n2, e2 := region.Least(c.b, c.facts, c.l)
		n3, e3 := region.Greatest(c.b, c.facts, c.l)
		n4, e4 := region.Sum(c.b, c.facts, c.p)
		if got := [5]api.Errno{e0, e1, e2, e3, e4}; got != c.want || n2 != 0 || n3 != 0 || n4 != 0 {
			t.Errorf("%d: %v", i, got)
		}
	}
	great := pol("1099511627776*n^8")
	wide := region.Box{Vars: []string{"n"}, Most: 13000}
	if _, e := region.Sum(wide, nil, great); e != api.ErrRange {
		t.Error("a value beyond the range")
	}
	if n, e := region.Sum(wide, facts("-n+6"), great); e != api.OK || n != (1+256+6561+65536+390625+1679616)<<40 {
		t.Errorf("%d %d", n, e)
	}
	if n, e := region.Sum(wide, facts("-n+8"), great); e != api.ErrRange || n != 0 {
		t.Error("a sum beyond the range")
	}
	if region.Same(square, bad, bad) || region.Same(square, facts("k"), facts("k")) || region.Same(region.Box{Most: -1}, nil, nil) {
		t.Error("Same with errors")
	}
	if !region.Same(square, facts("2n-1"), facts("n-1")) || region.Same(square, facts("n"), facts("n-1")) || !region.Same(square, nil, facts("n", "m")) {
		t.Error("Same")
	}
}

func random(r *rand.Rand) api.Linear {
	l := api.Linear{Const: r.Intn(9) - 4}
	for _, v := range []string{"k", "m", "n"} {
		if c := r.Intn(7) - 3; c != 0 {
			l.Terms = append(l.Terms, api.Coef{Var: v, C: c})
		}
	}
	return l
}

func TestRandom(t *testing.T) { // P10.2 to P10.6
	r := rand.New(rand.NewSource(1))
	for i := 0; i < 300; i++ {
		b := region.Box{Vars: []string{"n", "k", "m"}, Most: r.Intn(6)}
		f := []api.Fact{{L: random(r)}, {L: random(r), Equal: r.Intn(4) == 0}}[:r.Intn(3)]
		points, _ := region.Points(b, f)
		want, sum := 0, 0
		least, greatest := math.MaxInt, math.MinInt
		l := random(r)
		p := pol("2-3*k*n+m^2")
		for n := 0; n <= b.Most; n++ {
			for k := 0; k <= b.Most; k++ {
				for m := 0; m <= b.Most; m++ {
					values := region.Values(b, []int{n, k, m})
					if !certificate.Holds(f, values) {
						continue
					}
					if want >= len(points) || !slices.Equal(points[want], []int{n, k, m}) {
						t.Fatalf("%v %v: %v", b, f, points)
					}
					want++
					v, _ := linear.Eval(l, values)
					least, greatest = min(least, v), max(greatest, v)
					sum += 2 - 3*k*n + m*m
				}
			}
		}
		count, _ := region.Count(b, f)
		one, _ := region.Sum(b, f, pol("1"))
		if count != want || one != want || len(points) != want {
			t.Fatalf("%v %v: %d points, not %d", b, f, count, want)
		}
		if s, e := region.Sum(b, f, p); s != sum || e != api.OK {
			t.Fatalf("%v %v: the sum %d, not %d", b, f, s, sum)
		}
		lo, e := region.Least(b, f, l)
		hi, _ := region.Greatest(b, f, l)
		if want > 0 && (lo != least || hi != greatest || e != api.OK) || want == 0 && e != api.ErrNone {
			t.Fatalf("%v %v %v: %d %d", b, f, l, lo, hi)
		}
		opposite, _ := linear.Scale(l, -1)
		if n, _ := region.Least(b, f, opposite); n != -hi {
			t.Fatalf("%v %v %v", b, f, l)
		}
		further := random(r)
		other, _ := certificate.Negate(further)
		first, _ := region.Count(b, append(f[:len(f):len(f)], api.Fact{L: further}))
		second, _ := region.Count(b, append(f[:len(f):len(f)], api.Fact{L: other}))
		if first+second != want {
			t.Fatalf("%v %v divided by %v", b, f, further)
		}
		turned := region.Box{Vars: []string{"m", "n", "k"}, Most: b.Most}
		s, _ := region.Sum(turned, f, p)
		n, _ := region.Least(turned, f, l)
		if c, _ := region.Count(turned, f); c != want || s != sum || n != lo {
			t.Fatalf("%v %v in another order", b, f)
		}
	}
}
