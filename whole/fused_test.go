package whole

import (
	"slices"
	"testing"

	"framewise/api"
	"framewise/array"
	"framewise/audit"
	"framewise/flat"
	"framewise/fuse"
	"framewise/plan"
	"framewise/simplify"
)

// fusedCase is a run of a definition, with its simplified and fused program, and the plan for the run.
type fusedCase struct {
	flattened
	kernels api.Kernels
	plan    api.Plan
}

// eachFused calls f for runs of definitions whose plans fit into an arena.
func eachFused(t *testing.T, seed int64, count int, f func(c fusedCase)) {
	t.Helper()
	eachFlat(t, seed, count, func(c flattened) {
		simple, _, e := simplify.Run(c.flat)
		if e != api.OK {
			t.Fatalf("%s: %s: %d", c.text, c.def.Name, e)
		}
		k, e := fuse.Fuse(simple)
		if e == api.ErrLimit {
			return
		}
		if e != api.OK {
			t.Fatalf("%s: %s: %d", c.text, c.def.Name, e)
		}
		p, e := plan.Make(k, c.dims)
		if e != api.OK && e != api.ErrLimit {
			t.Fatalf("%s: %s: %d", c.text, c.def.Name, e)
		}
		if e == api.OK && p.Peak <= plan.MaxArena {
			f(fusedCase{c, k, p})
		}
	})
}

func TestFused(t *testing.T) { // W7, W8
	compared := 0
	eachFused(t, 8, 300, func(c fusedCase) {
		clashes, e := audit.Clashes(c.kernels, c.plan, c.dims)
		tops, f := audit.Tops(c.kernels, c.plan, c.dims)
		least, g := audit.Least(c.kernels, c.dims)
		if e != api.OK || f != api.OK || g != api.OK || clashes != nil || slices.Max(tops) != c.plan.Peak || least > c.plan.Peak {
			t.Fatalf("%s: %s of %v: %v %v %d", c.text, c.def.Name, c.inputs, clashes, tops, least)
		}
		want, checks, e := flat.Run(c.flat, c.dims, c.inputs)
		arrays, violated, f := fuse.Run(c.kernels, c.dims, c.inputs)
		results, marks, g := plan.Run(c.kernels, c.plan, c.dims, c.inputs)
		if e != api.OK || f == api.ErrLimit || g == api.ErrLimit {
			return
		}
		compared++
		isEqual := f == api.OK && g == api.OK && slices.Equal(checks, violated) && slices.Equal(checks, marks)
		if !isEqual || !array.Equal(want[0], arrays[c.kernels.Results[0]]) || !array.Equal(want[0], results[0]) {
			t.Fatalf("%s: %s of %v: %d %d %v, not %v", c.text, c.def.Name, c.inputs, f, g, results, want)
		}
	})
	if compared < 300 {
		t.Errorf("%d programs", compared)
	}
}
