package whole

import (
	"math/rand"
	"slices"
	"testing"

	"framewise/api"
	"framewise/infer"
	"framewise/parser"
	"framewise/printer"
	"framewise/types"
)

// texts returns the corpus, and random modules.
func texts(seed int64, count int) []string {
	r := rand.New(rand.NewSource(seed))
	l := slices.Clone(corpus)
	for range count {
		l = append(l, text(r, "m", 1+r.Intn(3), 1+r.Intn(4)))
	}
	return l
}

func schemes(t *testing.T, m api.Module) ([]api.Scheme, api.Errno) {
	t.Helper()
	s, e := printer.Print(m)
	if e != api.OK {
		t.Fatalf("%d", e)
	}
	p, err := resolved(s)
	if err != nil {
		t.Fatal(err)
	}
	out, _, e := infer.All(p)
	return out.Schemes, e
}

func TestCorpus(t *testing.T) {
	inferred := 0
	for _, text := range texts(1, 300) {
		p, err := resolved(text)
		if err != nil {
			t.Fatal(err)
		}
		q, _, e := infer.All(p)
		inferred += len(q.Schemes)
		if e != api.OK {
			t.Logf("%s\n%s", text, api.Name(e))
		}
	}
	t.Logf("%d definitions", inferred)
	if inferred < 400 {
		t.Errorf("%d definitions", inferred)
	}
}

func TestGivenTypes(t *testing.T) { // W1
	compared := 0
	for _, text := range texts(2, 150) {
		m, _, e := parser.Parse(text)
		if e != api.OK {
			t.Fatalf("%s: %d", text, e)
		}
		p, err := resolved(text)
		if err != nil {
			t.Fatal(err)
		}
		with, _, _ := infer.All(p)
		for i, d := range m.Defs {
			for j, q := range d.Params {
				if !q.Given {
					continue
				}
				other, _, _ := parser.Parse(text)
				other.Defs[i].Params[j] = api.Param{Name: q.Name}
				s, _ := printer.Print(other)
				without, err := resolved(s)
				if err != nil {
					continue // a size has lost its dimension
				}
				for k := range min(len(with.Schemes), len(with.Defs)) {
					if with.Defs[k].Name != "m."+d.Name {
						continue
					}
					without.Schemes = with.Schemes[:k]
					general, solution, _, e := infer.Infer(without)
					if e != api.OK || !solution.Forced || without.Defs[k].Name != with.Defs[k].Name {
						continue
					}
					compared++
					if _, e := types.Instance(general, with.Schemes[k]); e != api.OK {
						a, _ := types.PrintScheme(general)
						b, _ := types.PrintScheme(with.Schemes[k])
						t.Errorf("%s: %s is not an instance of %s: %d", text, b, a, e)
					}
				}
			}
		}
	}
	if compared < 20 {
		t.Errorf("%d", compared)
	}
}

func TestCanonicalTexts(t *testing.T) { // W2
	for _, text := range texts(3, 150) {
		if len(text) > 1500 {
			continue
		}
		m, _, _ := parser.Parse(text)
		formatted, _, e := printer.Format(text)
		if e != api.OK {
			t.Fatalf("%s: %d", text, e)
		}
		again, _, _ := parser.Parse(formatted)
		turned, _, _ := parser.Parse(text)
		slices.Reverse(turned.Defs)
		want, e := schemes(t, m)
		for _, other := range []api.Module{again, turned} {
			if got, f := schemes(t, other); !slices.EqualFunc(got, want, types.EqualScheme) || e != f {
				t.Errorf("%s: %d %d", text, e, f)
			}
		}
	}
}
