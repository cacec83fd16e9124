package proof_test

import (
	"slices"
	"testing"

	"framewise/api"
	"framewise/flat"
	"framewise/proof"
	"framewise/rules"
	"framewise/sample"
)

var in = sample.Instr

// start is (x + 0) * 1, and steps lead from it to x.
func start() api.Flat {
	return sample.Program("n", []string{"[n]int"}, []int{4}, sample.Const("#[: 0]"), in("add v0@0 v1|n"), sample.Const("#[: 1]"), in("mul v2@0 v3|n"))
}

var steps = []api.Rewrite{{Rule: rules.Neutral, At: 1, Arg: 1}, {Rule: rules.Dead, At: 1}, {Rule: rules.Dead, At: 0}, {Rule: rules.Neutral, At: 1, Arg: 1}, {Rule: rules.Dead, At: 1}, {Rule: rules.Dead, At: 0}}

func TestReplay(t *testing.T) { // P41.1
	g, at, e := proof.Replay(start(), steps)
	if at != 6 || e != api.OK || len(g.Code) != 0 || g.Results[0] != 0 {
		t.Errorf("%v %d %d", g, at, e)
	}
	if e := proof.Check(start(), g, steps); e != api.OK {
		t.Errorf("%d", e)
	}
	if e := proof.Check(start(), start(), steps); e != api.ErrProof {
		t.Errorf("%d", e)
	}
	if e := proof.Check(start(), start(), nil); e != api.OK {
		t.Errorf("%d", e)
	}
	trace, e := proof.Trace(start(), steps)
	if len(trace) != 7 || e != api.OK || !flat.Equal(trace[0], start()) || !flat.Equal(trace[6], g) {
		t.Errorf("%d %d", len(trace), e)
	}
	long := slices.Repeat(steps, 200)
	for i, c := range []struct {
		f  api.Flat
		p  []api.Rewrite
		at int
		e  api.Errno
	}{
		{api.Flat{}, long, 0, api.ErrCode}, {start(), long, 0, api.ErrLimit}, {start(), steps[1:], 0, api.ErrRule}, {start(), append(slices.Clone(steps[:3]), api.Rewrite{Rule: rules.Double, At: 1}), 3, api.ErrRule}, {start(), append(slices.Clone(steps[:2]), api.Rewrite{}), 2, api.ErrNone}, {start(), long[:1000], 6, api.ErrNone}, {start(), nil, 0, api.OK},
	} {
		g, at, e := proof.Replay(c.f, c.p)
		_, f := proof.Trace(c.f, c.p)
		_, h := proof.Needed(c.f, c.p)
		if at != c.at || e != c.e || f != c.e || h != c.e || proof.Check(c.f, c.f, c.p) != c.e || e != api.OK && g.Results != nil {
			t.Errorf("%d: %d %d", i, at, e)
		}
	}
	trace[0].Code[0].Op = "x"
	if flat.Equal(trace[0], start()) || trace[1].Code[0].Op == "x" {
		t.Error("memory is shared")
	}
}

func TestNotation(t *testing.T) { // P41.1, P41.4
	want := []string{"neutral 1 1", "dead 1", "dead 0", "neutral 1 1", "dead 1", "dead 0"}
	lines, e := proof.Print(steps)
	if !slices.Equal(lines, want) || e != api.OK {
		t.Errorf("%q %d", lines, e)
	}
	p, at, e := proof.Parse(lines)
	if !slices.Equal(p, steps) || at != 6 || e != api.OK {
		t.Errorf("%v %d %d", p, at, e)
	}
	for rule := rules.Dead; rule <= rules.Choice; rule++ {
		r := []api.Rewrite{{Rule: rule, At: 1000000, Arg: 7}}
		lines, _ := proof.Print(r)
		if p, _, e := proof.Parse(lines); !slices.Equal(p, r) || e != api.OK {
			t.Errorf("%q", lines)
		}
	}
	for _, s := range []string{"", "dead", "dead ", "dead -1", "dead 01", "dead 1 0", "dead 1 ", "dead  1", " dead 1", "dead 1 1 1", "dead 1000001", "dead 1 1000001", "death 1", "Dead 1", "dead +1", "dead 1.0", "dead x", " 1", "dead 99999999999999999999", "dead 1\n"} {
		if p, at, e := proof.Parse([]string{"dead 2", s, "x"}); p != nil || at != 1 || e != api.ErrSyntax {
			t.Errorf("%q: %d %d", s, at, e)
		}
	}
	if _, at, e := proof.Parse(slices.Repeat([]string{"x"}, 1001)); at != 0 || e != api.ErrLimit {
		t.Errorf("%d %d", at, e)
	}
	if p, at, e := proof.Parse(slices.Repeat([]string{"dead 2"}, 1000)); len(p) != 1000 || at != 1000 || e != api.OK {
		t.Errorf("%d %d", at, e)
	}
	for _, r := range []api.Rewrite{{}, {Rule: 16}, {Rule: 1, At: -1}, {Rule: 1, Arg: -1}} {
		if l, e := proof.Print([]api.Rewrite{{Rule: 1}, r}); l != nil || e != api.ErrArg {
			t.Errorf("%v: %d", r, e)
		}
	}
	if _, e := proof.Print(make([]api.Rewrite, 1001)); e != api.ErrLimit {
		t.Errorf("%d", e)
	}
}

func TestNeeded(t *testing.T) { // P41.1, P41.5
	f := sample.Program("n", []string{"[n]int", "int"}, []int{4}, in("add v1 v0@0|n"), in("neg v0@0|n"), in("add v1 v0@0|n"))
	swap := api.Rewrite{Rule: rules.Order, At: 0}
	p := []api.Rewrite{swap, {Rule: rules.Dead, At: 1}, {Rule: rules.Order, At: 1}, {Rule: rules.Common, At: 1}}
	needed, e := proof.Needed(f, p)
	if e != api.OK || !slices.Equal(needed, p) {
		t.Errorf("%v %d", needed, e)
	}
	f = sample.Program("n", []string{"int", "int"}, []int{2}, in("add v1 v0"))
	again := []api.Rewrite{swap}
	if needed, e := proof.Needed(f, again); e != api.OK || !slices.Equal(needed, again) {
		t.Errorf("%v %d", needed, e)
	}
	d := sample.NewDice(3)
	shorter := 0
	for range 200 {
		f := sample.Flat(d, 6)
		var p []api.Rewrite
		g := f
		for range 4 {
			all := rules.All(g)
			if len(all) == 0 {
				break
			}
			r := all[d.N(len(all))]
			g, _ = rules.Apply(g, r)
			p = append(p, r)
		}
		needed, e := proof.Needed(f, p)
		if e != api.OK || proof.Check(f, g, needed) != api.OK {
			t.Fatalf("%v: %v %d", p, needed, e)
		}
		for i := range needed {
			if proof.Check(f, g, sample.Without(needed, i)) == api.OK {
				t.Fatalf("%v: %v without %d", p, needed, i)
			}
		}
		if len(needed) < len(p) {
			shorter++
		}
		// P41.3
		k := d.N(len(p) + 1)
		half, _, _ := proof.Replay(f, p[:k])
		whole, _, _ := proof.Replay(half, p[k:])
		if !flat.Equal(whole, g) {
			t.Fatalf("%v in two parts", p)
		}
		dims := sample.Dims(d, 3)
		inputs := sample.Inputs(d, f.Inputs, dims)
		a, v, e := flat.Run(f, dims, inputs)
		b, w, h := flat.Run(g, dims, inputs)
		if e == api.OK && h == api.OK && (sample.Text(a) != sample.Text(b) || !slices.Equal(v, w)) { // P41.2
			t.Fatalf("%v changes the outcome", p)
		}
	}
	if shorter == 0 {
		t.Error("no step was left out")
	}
}
