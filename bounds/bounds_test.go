package bounds_test

import (
	"fmt"
	"slices"
	"testing"

	"framewise/api"
	"framewise/bounds"
	"framewise/certificate"
	"framewise/clone"
	"framewise/elaborate"
	"framewise/linear"
	"framewise/parser"
	"framewise/ranges"
	"framewise/resolve"
)

func elaborated(text string) []api.Typed {
	m, at, e := parser.Parse("module m " + text)
	if e != api.OK {
		panic(fmt.Sprint(text, at, e))
	}
	p, fault, e := resolve.Resolve([]api.Module{m})
	if e != api.OK {
		panic(fmt.Sprint(text, fault, e))
	}
	l, lines, e := elaborate.All(p)
	if e != api.OK {
		panic(fmt.Sprint(text, lines, e))
	}
	return l
}

const source = "def a(x: [n]int) = index(x, iota[n]()) def b(x: [n]int, i: int) = index(x, i) def c(x: [n]int, i: int) = index(x, 0) + update(#[2: 3 4], min(max(i, 0), index(#[2: 0 1], 1)), index(x, i % 2))"

func TestSites(t *testing.T) { // P35.1
	l := elaborated(source)
	sites, e := bounds.Sites(l)
	var got []string
	for _, s := range sites {
		got = append(got, fmt.Sprint(s.Def, s.Node, " ", linear.Print(s.Low), " ", linear.Print(s.High), " ", s.Known))
	}
	want := []string{"0 0 0 0 true", "1 0 0 0 false", "2 1 0 n1-1 true", "2 4 0 0 true", "2 10 1 0 true", "2 13 0 n1-2 true"}
	if e != api.OK || !slices.Equal(got, want) {
		t.Errorf("%v %d", got, e)
	}
	if s, e := bounds.Sites(append(l, l[0])); e != api.ErrArg || s != nil {
		t.Errorf("%d", e)
	}
	if s, e := bounds.Sites(nil); e != api.OK || s != nil {
		t.Errorf("%d", e)
	}
}

func TestBound(t *testing.T) { // P35.1, P35.2, P35.4
	l := elaborated(source)
	b, e := bounds.Bound(l)
	if e != api.OK {
		t.Fatal(e)
	}
	if n, e := bounds.Verify(b); n != 6 || e != api.OK {
		t.Errorf("%d %d", n, e)
	}
	if got := bounds.Checks(b); !slices.Equal(got, []int{2, 3, 6}) {
		t.Errorf("%v", got)
	}
	if proved, all := bounds.Proved(b); proved != 3 || all != 6 {
		t.Errorf("%d of %d", proved, all)
	}
	if !slices.EqualFunc(bounds.Bare(b), l, elaborate.Equal) {
		t.Error("Bare")
	}
	// What was said ahead does not matter.
	wrong := clone.Each(b, clone.Typed)
	wrong[0].Body.Check, wrong[1].Body.Certs, wrong[1].Body.Kids[0].Check = 9, wrong[0].Body.Certs, 7
	again, _ := bounds.Bound(wrong)
	if !slices.EqualFunc(bounds.Bare(again), l, elaborate.Equal) || !slices.Equal(bounds.Checks(again), []int{2, 3, 6}) {
		t.Error("Bound of what was bounded")
	}
	if _, e := bounds.Bound(append(l, l[0])); e != api.ErrArg {
		t.Errorf("%d", e)
	}
	if b[0].Body.Kids[0].Name = "z"; l[0].Body.Kids[0].Name != "x" {
		t.Error("memory is shared")
	}
}

func TestVerify(t *testing.T) { // P35.5
	l, _ := bounds.Bound(elaborated(source))
	node := func(l []api.Typed, def, i int) *api.Node {
		var found *api.Node
		var visit func(n *api.Node)
		visit = func(n *api.Node) {
			if i--; i == -1 {
				found = n
			}
			for k := range n.Kids {
				visit(&n.Kids[k])
			}
		}
		visit(&l[def].Body)
		return found
	}
	for i, c := range []struct {
		f func(l []api.Typed)
		n int
		e api.Errno
	}{
		{func(l []api.Typed) {}, 6, api.OK},
		{func(l []api.Typed) { node(l, 0, 0).Certs = node(l, 0, 0).Certs[:1] }, 1, api.ErrProof},
		{func(l []api.Typed) { node(l, 0, 0).Certs = nil }, 1, api.ErrProof},
		{func(l []api.Typed) { node(l, 0, 0).Certs, node(l, 0, 0).Check = nil, 1 }, 6, api.OK},
		{func(l []api.Typed) { node(l, 0, 0).Check = 1 }, 1, api.ErrProof},
		{func(l []api.Typed) { node(l, 0, 0).Certs[1] = api.Cert{} }, 1, api.ErrProof},
		{func(l []api.Typed) { node(l, 2, 4).Certs[0] = api.Cert{Kind: api.CertSum} }, 4, api.ErrProof},
		{func(l []api.Typed) { node(l, 1, 0).Check = 3 }, 2, api.ErrProof},
		{func(l []api.Typed) { node(l, 1, 0).Check = 0 }, 2, api.ErrProof},
		{func(l []api.Typed) { node(l, 1, 0).Certs, node(l, 1, 0).Check = node(l, 0, 0).Certs, 0 }, 2, api.ErrProof},
		{func(l []api.Typed) { node(l, 1, 1).Check = 2 }, 0, api.ErrProof},
		{func(l []api.Typed) { node(l, 1, 1).Certs = node(l, 0, 0).Certs }, 0, api.ErrProof},
		{func(l []api.Typed) { node(l, 1, 1).Check = 2; node(l, 2, 13).Check = 0 }, 6, api.ErrProof},
		{func(l []api.Typed) { l[0].Name = "x" }, 0, api.ErrArg},
	} {
		other := clone.Each(l, clone.Typed)
		c.f(other)
		if n, e := bounds.Verify(other); n != c.n || e != c.e {
			t.Errorf("%d: %d %d", i, n, e)
		}
	}
	odd := []api.Typed{{Body: api.Node{Check: 7, Kids: []api.Node{{Check: -3, Kind: api.TermCall, Name: "index"}, {Check: 7, Certs: make([]api.Cert, 1)}}}}}
	if got := bounds.Checks(odd); !slices.Equal(got, []int{-3, 7}) {
		t.Errorf("%v", got)
	}
	if proved, all := bounds.Proved(odd); proved != 1 || all != 1 {
		t.Errorf("%d of %d", proved, all)
	}
	if bare := bounds.Bare(odd); len(bounds.Checks(bare)) != 0 {
		t.Error("Bare of any list")
	}
}

func TestSound(t *testing.T) { // P35.3, P35.6
	l := elaborated(source)
	b, _ := bounds.Bound(l)
	sites, _ := bounds.Sites(l)
	i := 0
	for _, d := range b {
		for n := range elaborate.Preorder(d.Body) {
			if n.Kind != api.TermCall || n.Name != "index" && n.Name != "update" {
				continue
			}
			s := sites[i]
			i++
			if len(n.Certs) == 0 {
				continue
			}
			hyps := ranges.Hyps(d.Scheme)
			if certificate.Proves(hyps, s.Low, n.Certs[0]) != api.OK || certificate.Proves(hyps, s.High, n.Certs[1]) != api.OK {
				t.Errorf("site %d", i)
			}
			for v := range 5000 {
				values := []api.Value{{Var: "n1", N: v}}
				holds := true
				for _, h := range hyps {
					k, _ := linear.Eval(h, values)
					holds = holds && k >= 0
				}
				low, _ := linear.Eval(s.Low, values)
				high, _ := linear.Eval(s.High, values)
				if holds && (low < 0 || high < 0) {
					t.Errorf("site %d: %v", i, values)
				}
			}
		}
	}
	more := elaborated(source + " def z(x: [n]int) = index(x, 0)")
	c, _ := bounds.Bound(more)
	if !slices.Equal(bounds.Checks(c[:3]), bounds.Checks(b)) || !slices.Equal(bounds.Checks(c), []int{2, 3, 6, 7}) {
		t.Errorf("%v", bounds.Checks(c))
	}
}
