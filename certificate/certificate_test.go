package certificate_test

import (
	"bytes"
	"math/rand"
	"slices"
	"testing"

	"framewise/api"
	"framewise/certificate"
	"framewise/linear"
	"framewise/wire"
)

func lin(s string) api.Linear {
	l, e := linear.Parse(s)
	if e != api.OK {
		panic(s)
	}
	return l
}

func atLeast(s ...string) []api.Fact {
	var l []api.Fact
	for _, t := range s {
		l = append(l, api.Fact{L: lin(t)})
	}
	return l
}

func equal(s string) api.Fact { return api.Fact{Equal: true, L: lin(s)} }

func sum(mults ...int) api.Cert { return api.Cert{Kind: api.CertSum, Mults: mults} }

func cut(kid api.Cert, mults ...int) api.Cert {
	return api.Cert{Kind: api.CertCut, Mults: mults, Kids: []api.Cert{kid}}
}

func split(s string, a, b api.Cert) api.Cert {
	return api.Cert{Kind: api.CertSplit, Linear: lin(s), Kids: []api.Cert{a, b}}
}

var (
	bad    = []api.Fact{{L: api.Linear{Const: api.MaxCoef + 1}}}
	odd    = []api.Fact{equal("2n-1")}
	parity = cut(cut(sum(0, 1, 1), -1, 0), 1)
)

// chain returns a certificate of a size, which refutes nothing.
func chain(n int) api.Cert {
	c := sum()
	for ; n > 1; n-- {
		c = cut(c)
	}
	return c
}

func TestCheck(t *testing.T) { // P7.1
	wrong := func(c api.Cert, change func(*api.Cert)) api.Cert {
		change(&c)
		return c
	}
	for i, c := range []struct {
		facts []api.Fact
		cert  api.Cert
		want  api.Errno
	}{
		{odd, parity, api.OK},
		{[]api.Fact{{L: lin("2n-1")}}, parity, api.ErrProof},
		{atLeast("n", "-n-1"), sum(1, 1), api.OK},
		{atLeast("n", "-n"), sum(1, 1), api.ErrProof},
		{atLeast("n", "-n-1"), sum(1), api.ErrProof},
		{atLeast("n", "-n-1"), sum(1, 1, 0), api.ErrProof},
		{atLeast("n", "-n-1"), sum(2, 1), api.ErrProof},
		{atLeast("-n", "n-1"), sum(-1, -1), api.ErrProof},
		{atLeast("-1"), sum(1), api.OK},
		{atLeast("-1"), sum(certificate.MaxMult), api.OK},
		{atLeast("-1"), sum(certificate.MaxMult + 1), api.ErrProof},
		{[]api.Fact{equal("1")}, sum(-1), api.OK},
		{[]api.Fact{equal("1")}, sum(1), api.ErrProof},
		{nil, sum(), api.ErrProof},
		{nil, api.Cert{}, api.ErrProof},
		{atLeast("-1"), api.Cert{Kind: 4, Mults: []int{1}}, api.ErrProof},
		{atLeast("3n-1", "2-3n"), cut(cut(sum(0, 0, 1, 1), 0, 1, 0), 1, 0), api.OK},
		{atLeast("3n-1", "2-3n"), cut(sum(0, 0, 0), 0, 0), api.ErrProof},
		{atLeast("n-m", "m-n-1"), split("n", sum(1, 1, 0), sum(2, 2, 0)), api.OK},
		{atLeast("n-m", "m-n-1"), split("n", sum(1, 1), sum(2, 2, 0)), api.ErrProof},
		{atLeast("n-m", "m-n-1"), split("1000000", sum(1, 1, 0), sum(2, 2, 0)), api.ErrProof},
		{atLeast("n-m", "m-n-1"), split("-1000000", sum(1, 1, 0), sum(2, 2, 0)), api.OK},
		{atLeast("n-2", "1-n"), split("n-2", sum(0, 1, 1), sum(1, 0, 1)), api.OK},
		{atLeast("-1"), wrong(sum(1), func(c *api.Cert) { c.Linear = lin("1") }), api.ErrProof},
		{atLeast("-1"), wrong(sum(1), func(c *api.Cert) { c.Kids = []api.Cert{sum(1)} }), api.ErrProof},
		{odd, wrong(parity, func(c *api.Cert) { c.Linear = lin("n") }), api.ErrProof},
		{odd, wrong(parity, func(c *api.Cert) { c.Kids = append(c.Kids[:1:1], c.Kids[0]) }), api.ErrProof},
		{atLeast("n-2", "1-n"), wrong(split("n-2", sum(0, 1, 1), sum(1, 0, 1)), func(c *api.Cert) { c.Mults = []int{0} }), api.ErrProof},
		{atLeast("n-2", "1-n"), wrong(split("n-2", sum(0, 1, 1), sum(1, 0, 1)), func(c *api.Cert) { c.Kids = c.Kids[:1] }), api.ErrProof},
		{bad, chain(2000), api.ErrArg},
		{make([]api.Fact, 101), sum(), api.ErrLimit},
		{append(make([]api.Fact, 99), atLeast("-1")...), sum(append(make([]int, 99), 1)...), api.OK},
		{odd, chain(1001), api.ErrLimit},
		{odd, chain(1000), api.ErrProof},
	} {
		if e := certificate.Check(c.facts, c.cert); e != c.want {
			t.Errorf("%d: %d", i, e)
		}
	}
}

func TestCut(t *testing.T) { // P7.1, P7.3
	var many []api.Fact
	var ones []int
	for i := 0; i < 13; i++ {
		many = append(many, api.Fact{L: linear.Var(string(rune('a' + i)))})
		ones = append(ones, 1)
	}
	for i, c := range []struct {
		facts []api.Fact
		mults []int
		want  string
		e     api.Errno
	}{
		{odd, []int{1}, "n-1", api.OK},
		{odd, []int{-1}, "-n", api.OK},
		{atLeast("4n-2m+7", "2m"), []int{1, 3}, "m+n+1", api.OK},
		{atLeast("4n-2m+7", "2m"), []int{1, 1}, "n+1", api.OK},
		{atLeast("n", "-n"), []int{1, 1}, "0", api.ErrProof},
		{atLeast("n"), []int{-1}, "0", api.ErrProof},
		{atLeast("n"), []int{1, 0}, "0", api.ErrProof},
		{atLeast("n"), nil, "0", api.ErrProof},
		{atLeast("n+1000000", "m"), []int{2, 1}, "0", api.ErrLimit},
		{many, ones, "0", api.ErrLimit},
		{many[:12], ones[:12], "a+b+c+d+e+f+g+h+i+j+k+l", api.OK},
		{bad, nil, "0", api.ErrArg},
	} {
		l, e := certificate.Cut(c.facts, c.mults)
		if linear.Print(l) != c.want || e != c.e {
			t.Errorf("%d: %s %d", i, linear.Print(l), e)
		}
	}
	var long []api.Fact
	var mults []int
	for i := 0; i < 20000; i++ {
		long = append(long, api.Fact{Equal: true, L: lin("1000000n")})
		mults = append(mults, certificate.MaxMult*(1-i%2*2))
	}
	if l, e := certificate.Cut(append(long, atLeast("2n+3")...), append(mults, 1)); linear.Print(l) != "n+1" || e != api.OK {
		t.Error("sums on the way are exact")
	}
	r := rand.New(rand.NewSource(1))
	for i := 0; i < 2000; i++ {
		facts, mults := randomFacts(r)
		l, e := certificate.Cut(facts, mults)
		if e != api.OK {
			continue
		}
		for p := 0; p < 81; p++ {
			values := []api.Value{{Var: "m", N: p%9 - 4}, {Var: "n", N: p/9 - 4}}
			if n, _ := linear.Eval(l, values); certificate.Holds(facts, values) && n < 0 {
				t.Fatalf("%v %v has the cut %v, but %v", facts, mults, l, values)
			}
		}
	}
}

func randomFacts(r *rand.Rand) ([]api.Fact, []int) {
	var facts []api.Fact
	var mults []int
	for i := 1 + r.Intn(3); i > 0; i-- {
		f := api.Fact{Equal: r.Intn(3) == 0, L: api.Linear{Const: r.Intn(11) - 5}}
		for _, v := range []string{"m", "n"} {
			if c := r.Intn(9) - 4; c != 0 {
				f.L.Terms = append(f.L.Terms, api.Coef{Var: v, C: c})
			}
		}
		m := r.Intn(4)
		if f.Equal {
			m -= 2
		}
		facts, mults = append(facts, f), append(mults, m)
	}
	return facts, mults
}

// randomCert returns a certificate of some levels for n facts.
func randomCert(r *rand.Rand, n, levels int) api.Cert {
	var mults []int
	for i := 0; i < n; i++ {
		mults = append(mults, r.Intn(4)-r.Intn(2))
	}
	switch kind := r.Intn(3); {
	case levels == 0 || kind == 0:
		return sum(mults...)
	case kind == 1:
		return cut(randomCert(r, n+1, levels-1), mults...)
	}
	l := []string{"n", "m-n", "n-1", "-m"}[r.Intn(4)]
	return split(l, randomCert(r, n+1, levels-1), randomCert(r, n+1, levels-1))
}

func TestSound(t *testing.T) { // P7.2, P7.4, P7.5
	r := rand.New(rand.NewSource(2))
	refuted := 0
	for i := 0; i < 60000; i++ {
		facts, _ := randomFacts(r)
		c := randomCert(r, len(facts), 2)
		if c.Kind == api.CertSplit {
			opposite, _ := certificate.Negate(c.Linear)
			first := certificate.Check(append(facts[:len(facts):len(facts)], api.Fact{L: c.Linear}), c.Kids[0])
			second := certificate.Check(append(facts[:len(facts):len(facts)], api.Fact{L: opposite}), c.Kids[1])
			if (certificate.Check(facts, c) == api.OK) != (first == api.OK && second == api.OK) {
				t.Fatalf("%v %v", facts, c)
			}
		}
		if certificate.Check(facts, c) != api.OK {
			continue
		}
		refuted++
		for p := 0; p < 289; p++ {
			if values := []api.Value{{Var: "m", N: p%17 - 8}, {Var: "n", N: p/17 - 8}}; certificate.Holds(facts, values) {
				t.Fatalf("%v is refuted, but %v", facts, values)
			}
		}
		at, n := r.Intn(len(facts)+1), r.Intn(4)
		weak, e := certificate.Weaken(c, at, n)
		more := slices.Insert(slices.Clone(facts), at, append(atLeast("n", "m-3"), equal("k"))[:min(n, 3)]...)
		if n <= 3 && (e != api.OK || certificate.Check(more, weak) != api.OK) {
			t.Fatalf("%v weakened at %d by %d: %v", c, at, n, weak)
		}
	}
	if refuted < 50 {
		t.Error(refuted)
	}
}

func TestWeaken(t *testing.T) { // P7.1, P7.4
	for i, c := range []struct {
		at, n int
		want  api.Cert
		e     api.Errno
	}{
		{0, 2, cut(cut(sum(0, 0, 0, 1, 1), 0, 0, -1, 0), 0, 0, 1), api.OK},
		{1, 1, cut(cut(sum(0, 0, 1, 1), -1, 0, 0), 1, 0), api.OK},
		{1, 0, parity, api.OK}, {2, 0, api.Cert{}, api.ErrRange}, {-1, 1, api.Cert{}, api.ErrRange}, {0, -1, api.Cert{}, api.ErrRange}, {0, 101, api.Cert{}, api.ErrRange},
	} {
		if w, e := certificate.Weaken(parity, c.at, c.n); !certificate.Equal(w, c.want) || e != c.e {
			t.Errorf("%d: %v %d", i, w, e)
		}
	}
	odd := api.Cert{Kind: 9, Mults: []int{5}, Linear: lin("n"), Kids: []api.Cert{sum(1, 2)}}
	w, e := certificate.Weaken(odd, 2, 1)
	if e != api.OK || !slices.Equal(w.Mults, []int{5}) || !slices.Equal(w.Kids[0].Mults, []int{1, 2, 0}) || !linear.Equal(w.Linear, lin("n")) {
		t.Errorf("%v %d", w, e)
	}
	w.Linear.Terms[0].C, w.Mults[0], w.Kids[0].Mults[0] = 7, 7, 7
	if odd.Linear.Terms[0].C != 1 || odd.Mults[0] != 5 || odd.Kids[0].Mults[0] != 1 {
		t.Error("memory is shared")
	}
	if w, e := certificate.Weaken(split("n", sum(1), sum()), 1, 1); e != api.ErrRange || w.Kind != 0 {
		t.Error("one of the lists is too short")
	}
}

func TestGoals(t *testing.T) { // P7.1, P7.2
	for i, c := range []struct {
		hyps []string
		goal string
		cert api.Cert
		want api.Errno
	}{
		{[]string{"n-1", "m-n"}, "m-1", sum(1, 1, 1), api.OK},
		{[]string{"n-1", "m-n"}, "m-2", sum(1, 1, 1), api.ErrProof},
		{nil, "0", sum(1), api.OK},
		{nil, "1000000", sum(1), api.ErrLimit},
		{make([]string, 99), "n-n", sum(append(make([]int, 99), 1)...), api.OK},
		{make([]string, 100), "n-n", sum(append(make([]int, 100), 1)...), api.ErrLimit},
		{nil, "0", chain(1001), api.ErrLimit},
	} {
		var hyps []api.Linear
		for _, h := range c.hyps {
			if h == "" {
				h = "0"
			}
			hyps = append(hyps, lin(h))
		}
		if e := certificate.Proves(hyps, lin(c.goal), c.cert); e != c.want {
			t.Errorf("%d: %d", i, e)
		}
	}
	if e := certificate.Proves([]api.Linear{bad[0].L}, lin("1000000"), sum()); e != api.ErrArg {
		t.Error("a hypothesis that is not valid")
	}
	if e := certificate.Proves(nil, bad[0].L, sum()); e != api.ErrArg {
		t.Error("a goal that is not valid")
	}
	if l, e := certificate.Negate(lin("n-3")); linear.Print(l) != "-n+2" || e != api.OK {
		t.Error("Negate")
	}
	if _, e := certificate.Negate(bad[0].L); e != api.ErrArg {
		t.Error("Negate of what is not valid")
	}
	if _, e := certificate.Negate(lin("1000000")); e != api.ErrLimit {
		t.Error("an opposite that is not valid")
	}
}

func TestHolds(t *testing.T) { // P7.1
	values := []api.Value{{Var: "n", N: 2}}
	for i, c := range []struct {
		facts []api.Fact
		want  bool
	}{
		{nil, true}, {atLeast("n-2"), true}, {atLeast("n-3"), false}, {[]api.Fact{equal("n-2")}, true}, {[]api.Fact{equal("n-1")}, false}, {[]api.Fact{equal("n-3")}, false}, {atLeast("n", "m"), false}, {bad, false},
	} {
		if certificate.Holds(c.facts, values) != c.want {
			t.Errorf("%d", i)
		}
	}
	if certificate.Valid(bad) || !certificate.Valid(odd) || !certificate.Valid(nil) {
		t.Error("Valid")
	}
	if certificate.Size(parity) != 3 || certificate.Size(api.Cert{}) != 1 || certificate.Size(chain(60000)) != 60000 {
		t.Error("Size")
	}
}

func TestEncoding(t *testing.T) { // P7.6
	r := rand.New(rand.NewSource(3))
	for i := 0; i < 500; i++ {
		c := randomCert(r, 3, 4)
		b := certificate.Encode([]byte{7}, c)
		s := wire.Source{Rest: append(b[1:], 9)}
		if d := certificate.Decode(&s); !certificate.Equal(c, d) || s.Err != api.OK || !bytes.Equal(s.Rest, []byte{9}) || b[0] != 7 {
			t.Fatalf("%v", c)
		}
	}
	head := certificate.Encode(nil, sum(1))
	head = head[:len(head)-1]
	tooMany := api.Cert{Kind: api.CertSum, Kids: make([]api.Cert, 3)}
	for i, c := range []struct {
		b    []byte
		want api.Errno
	}{
		{nil, api.ErrForm}, {certificate.Encode(nil, api.Cert{}), api.ErrRange}, {certificate.Encode(nil, api.Cert{Kind: 4}), api.ErrRange}, {certificate.Encode(nil, sum(certificate.MaxMult+1)), api.ErrRange}, {certificate.Encode(nil, sum(make([]int, 1101)...)), api.ErrLimit}, {certificate.Encode(nil, sum(make([]int, 1100)...)), api.OK}, {certificate.Encode(nil, tooMany), api.ErrLimit}, {wire.Int(head, -1), api.ErrLimit}, {head, api.ErrForm},
		{certificate.Encode(nil, chain(1000)), api.OK}, {certificate.Encode(nil, chain(1001)), api.ErrLimit}, {certificate.Encode(nil, chain(1000))[:1000*5-1], api.ErrForm},
		{append(certificate.Encode(nil, chain(1000))[:1000*5-1], 129), api.ErrLimit}, {append(certificate.Encode(nil, chain(999))[:999*5-1], 129), api.ErrForm},
	} {
		s := wire.Source{Rest: c.b}
		d := certificate.Decode(&s)
		if s.Err != c.want || s.Err != api.OK && (len(s.Rest) != len(c.b) || d.Kind != 0) {
			t.Errorf("%d: %d", i, s.Err)
		}
	}
	if !certificate.Equal(api.Cert{Mults: []int{}, Kids: []api.Cert{}}, api.Cert{}) || certificate.Equal(parity, sum(1)) || certificate.Equal(split("n", sum(), sum()), split("m", sum(), sum())) {
		t.Error("Equal")
	}
}
