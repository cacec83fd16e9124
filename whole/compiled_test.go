package whole

import (
	"slices"
	"testing"

	"framewise/api"
	"framewise/array"
	"framewise/compile"
	"framewise/cost"
	"framewise/image"
	"framewise/machine"
	"framewise/nest"
	"framewise/tile"
	"framewise/verify"
)

func TestCompiled(t *testing.T) { // W9
	compared := 0
	eachFused(t, 9, 300, func(c fusedCase) {
		b, e := compile.Make(c.kernels, c.plan, c.dims)
		if e == api.ErrLimit {
			return
		}
		at, f := verify.Verify(b)
		if e != api.OK || f != api.OK || at != len(b.Ops) {
			t.Fatalf("%s: %s of %v: %d, instruction %d %d", c.text, c.def.Name, c.inputs, e, at, f)
		}
		want, e := cost.Of(c.kernels, c.plan, c.dims)
		out, f := machine.Run(b, c.inputs)
		if e == api.ErrLimit || f == api.ErrLimit {
			return
		}
		compared++
		isEqual := e == api.OK && f == api.OK && out.Counts == want && slices.Equal(out.Violated, c.violated)
		if !isEqual || len(out.Results) != 1 || !array.Equal(out.Results[0], c.out) || want.Peak != c.plan.Peak {
			t.Fatalf("%s: %s of %v: %v %d %d, not %v %v %v", c.text, c.def.Name, c.inputs, out, e, f, c.out, c.violated, want)
		}
	})
	t.Logf("%d programs", compared)
	if compared < 300 {
		t.Errorf("%d programs", compared)
	}
}

func TestNests(t *testing.T) { // W10
	compared, tiled := 0, 0
	eachFused(t, 10, 300, func(c fusedCase) {
		results, counts, violated, e := nest.All(c.kernels, c.dims, c.inputs)
		if e == api.ErrLimit {
			return
		}
		if e != api.OK || !array.Equal(results[0], c.out) || !slices.Equal(violated, c.violated) {
			t.Fatalf("%s: %s of %v: %v %v %d", c.text, c.def.Name, c.inputs, results, violated, e)
		}
		compared++
		var sum api.Counts
		for k := range c.kernels.List {
			nests, e := nest.Of(c.kernels, k, false)
			if e != api.OK {
				t.Fatalf("%s: %s: %d", c.text, c.def.Name, e)
			}
			for _, n := range nests {
				own, e := cost.Nest(n, c.dims)
				if e == api.ErrLimit {
					return
				}
				sizes := slices.Repeat([]int{2}, len(n.Loops))
				isSafe, f := tile.SafeTile(n, sizes, c.kernels.Vars, c.kernels.Where)
				if isSafe {
					other, g := tile.Tile(n, sizes)
					again, h := cost.Nest(other, c.dims)
					if tiled++; g != api.OK || h != api.OK || again != own {
						t.Fatalf("%s: %s: tiled, %v %d %d, not %v", c.text, c.def.Name, again, g, h, own)
					}
				}
				if e != api.OK || f != api.OK && f != api.ErrLimit {
					t.Fatalf("%s: %s: %d %d", c.text, c.def.Name, e, f)
				}
				sum = api.Counts{Reads: sum.Reads + own.Reads, Writes: sum.Writes + own.Writes, Ops: sum.Ops + own.Ops}
			}
		}
		if sum != counts {
			t.Fatalf("%s: %s of %v: %v, not %v", c.text, c.def.Name, c.inputs, sum, counts)
		}
	})
	t.Logf("%d programs, %d nests that are tiled", compared, tiled)
	if compared < 300 || tiled < 300 {
		t.Errorf("%d programs, %d nests that are tiled", compared, tiled)
	}
}

func TestImages(t *testing.T) { // W12
	compared := 0
	eachFlat(t, 11, 300, func(c flattened) {
		i, stage, e := image.Make(c.list, c.def.Name, c.special.ranks, c.special.elems, c.dims)
		if e == api.ErrLimit {
			return
		}
		b, f := image.Encode(i)
		j, g := image.Decode(b)
		if e != api.OK || f != api.OK || g != api.OK || !image.Equal(i, j) {
			t.Fatalf("%s: %s of %v: %d %d, %d %d", c.text, c.def.Name, c.inputs, stage, e, f, g)
		}
		results, violated, e := image.Run(j, c.inputs)
		if e == api.ErrLimit {
			return
		}
		compared++
		if e != api.OK || len(results) != 1 || !array.Equal(results[0], c.out) || !slices.Equal(violated, c.violated) {
			t.Fatalf("%s: %s of %v: %v %v %d, not %v %v", c.text, c.def.Name, c.inputs, results, violated, e, c.out, c.violated)
		}
	})
	t.Logf("%d images", compared)
	if compared < 300 {
		t.Errorf("%d images", compared)
	}
}
