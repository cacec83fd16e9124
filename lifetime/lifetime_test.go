package lifetime_test

import (
	"slices"
	"testing"

	"framewise/api"
	"framewise/clone"
	"framewise/fuse"
	"framewise/lifetime"
	"framewise/sample"
)

var in = sample.Instr

func fused(f api.Flat) api.Kernels {
	k, e := fuse.Fuse(f)
	if e != api.OK {
		panic(e)
	}
	return k
}

// chain has v2 = add(v0, v1) made, v3 from v2 twice, an update of v1, and an input that nothing reads.
func chain() api.Kernels {
	return fused(sample.Program("n", []string{"[n]int", "[n]int", "int", "[5]int"}, []int{6, 2}, in("add v0@0 v1@0|n"), in("mul v4@0 v4@0|n"), in("update v1 v2 v2"), in("neg v0@0|n")))
}

func TestSpans(t *testing.T) { // P45.1, P45.4
	one := fused(sample.Program("n", []string{"[n]int", "[n]int"}, []int{2}, in("add v0@0 v1@0|n")))
	if s, e := lifetime.Spans(one); !slices.Equal(s, []lifetime.Span{{-1, 0}, {-1, 0}, {0, 1}}) || e != api.OK {
		t.Errorf("%v %d", s, e)
	}
	if live, e := lifetime.Live(one, 0); !slices.Equal(live, []int{0, 1, 2}) || e != api.OK {
		t.Errorf("%v %d", live, e)
	}
	k := fused(sample.Program("n", []string{"[n]int", "[n]int", "int", "[5]int"}, []int{6, 2}, in("add v0@0 v1@0|n"), in("mul v4@0 v4@0|n"), in("update v5 v2 v2")))
	s, e := lifetime.Spans(k)
	if want := []lifetime.Span{{-1, 0}, {-1, 0}, {-1, 3}, {-1, -1}, {0, 1}, {1, 2}, {2, 3}}; !slices.Equal(s, want) || e != api.OK {
		t.Errorf("%v %d", s, e)
	}
	// v5 is a result, v6 is computed where it is used, and v7 is needed for nothing.
	k = fused(sample.Program("n", []string{"[n]int", "int"}, []int{2, 5}, in("scan v0"), in("neg v0@0|n"), in("abs v3@0|n"), in("fold v1 v4"), in("neg v1")))
	s, _ = lifetime.Spans(k)
	if want := []lifetime.Span{{-1, 1}, {-1, 1}, {0, 2}, {-2, -2}, {-2, -2}, {1, 2}, {-2, -2}}; !slices.Equal(s, want) {
		t.Errorf("%v", s)
	}
	for at, want := range map[int][]int{-1: {0, 1}, 0: {0, 1, 2}, 1: {0, 1, 2, 5}, 2: {2, 5}} {
		if live, e := lifetime.Live(k, at); !slices.Equal(live, want) || e != api.OK {
			t.Errorf("%d: %v %d", at, live, e)
		}
	}
	// A map and an update of the same value.
	k = fused(sample.Program("n", []string{"[n]int", "[n]int"}, []int{2}, in("update v0 v1@0 v1@0|n")))
	s, _ = lifetime.Spans(k)
	if want := []lifetime.Span{{-1, 0}, {-1, 1}, {0, 2}}; !slices.Equal(s, want) {
		t.Errorf("%v", s)
	}
	for _, at := range []int{-2, 3, 99} {
		if live, e := lifetime.Live(k, at); live != nil || e != api.ErrRange {
			t.Errorf("%d: %d", at, e)
		}
	}
}

func TestSizes(t *testing.T) { // P45.1, P45.5
	k := chain()
	sizes, e := lifetime.Sizes(k, sample.Values("n=3"))
	if !slices.Equal(sizes, []int{3, 3, 1, 5, 0, 0, 3, 0}) || e != api.OK {
		t.Errorf("%v %d", sizes, e)
	}
	needs, e := lifetime.Needs(k, sample.Values("n=3"))
	if !slices.Equal(needs, []int{12, 7, 4}) || e != api.OK {
		t.Errorf("%v %d", needs, e)
	}
	if n, e := lifetime.Least(k, sample.Values("n=3")); n != 12 || e != api.OK {
		t.Errorf("%d %d", n, e)
	}
	with := func(f func(k *api.Kernels)) api.Kernels {
		k := clone.Kernels(chain())
		f(&k)
		return k
	}
	for i, c := range []struct {
		k    api.Kernels
		dims string
		e    api.Errno
	}{
		{api.Kernels{}, "", api.ErrCode}, {k, "", api.ErrArg}, {k, "m=3", api.ErrArg}, {k, "n=-1", api.ErrArg}, {k, "n=4097", api.ErrArg}, {with(func(k *api.Kernels) { k.Where = sample.Linears("n-4") }), "n=3", api.ErrRange}, {with(func(k *api.Kernels) { k.Values[3].Shape.Dims = sample.Linears("2n") }), "n=2049", api.ErrLimit}, {with(func(k *api.Kernels) { k.Values[3].Shape.Dims = sample.Linears("n-1") }), "n=0", api.ErrLimit}, {with(func(k *api.Kernels) { k.Values[3].Shape.Dims = sample.Linears("n n") }), "n=65", api.ErrLimit}, {with(func(k *api.Kernels) { k.Values[4].Shape.Dims = sample.Linears("n n") }), "n=65", api.OK},
	} {
		_, e := lifetime.Sizes(c.k, sample.Values(c.dims))
		_, f := lifetime.Needs(c.k, sample.Values(c.dims))
		_, g := lifetime.Least(c.k, sample.Values(c.dims))
		if e != c.e || f != c.e || g != c.e {
			t.Errorf("%d: %d %d %d", i, e, f, g)
		}
	}
	if _, e := lifetime.Spans(api.Kernels{}); e != api.ErrCode {
		t.Errorf("%d", e)
	}
	if _, e := lifetime.Live(api.Kernels{}, 0); e != api.ErrCode {
		t.Errorf("%d", e)
	}
}

func TestRandom(t *testing.T) { // P45.2, P45.3, P45.4, P45.5
	d := sample.NewDice(11)
	for range 600 {
		k := fused(sample.Flat(d, 9))
		spans, _ := lifetime.Spans(k)
		for i, x := range k.List {
			live, _ := lifetime.Live(k, i)
			for _, v := range append(lifetime.Reads(x), x.Value) {
				if !slices.Contains(live, v) {
					t.Fatalf("v%d is not live at %d", v, i)
				}
			}
		}
		for v, s := range spans {
			isUsed := s.Last < 0 && v < k.Inputs || s == lifetime.Span{First: -2, Last: -2} || s.Last == len(k.List) && slices.Contains(k.Results, v)
			if s.Last >= 0 && s.Last < len(k.List) {
				x := k.List[s.Last]
				isUsed = x.Value == v || slices.Contains(lifetime.Reads(x), v)
			}
			if !isUsed {
				t.Fatalf("the span %v of v%d", s, v)
			}
		}
		dims := sample.Dims(d, 3)
		inputs := sample.Inputs(d, k.Values[:k.Inputs], dims)
		arrays, _, e := fuse.Run(k, dims, inputs)
		if e != api.OK {
			continue
		}
		sizes, e := lifetime.Sizes(k, dims)
		needs, _ := lifetime.Needs(k, dims)
		ahead, behind := 0, 0
		for v, n := range sizes {
			if v < k.Inputs {
				ahead += n
			}
			if slices.Contains(k.Results, v) {
				behind += n
			}
			if n != len(arrays[v].Data) {
				t.Fatalf("the size of v%d", v)
			}
		}
		if e != api.OK || needs[0] != ahead || needs[len(needs)-1] != behind {
			t.Fatalf("%v", needs)
		}
		// Arrays are filled with ones outside of their spans.
		m := fuse.NewMeter(dims)
		work := slices.Clone(inputs)
		for v := len(work); v < len(k.Values); v++ {
			work = append(work, clone.Array(arrays[v]))
		}
		for at := -1; at <= len(k.List); at++ {
			for v, s := range spans {
				if s.Last == at-1 {
					for j := range work[v].Data {
						work[v].Data[j] = 1
					}
				}
			}
			if at >= 0 && at < len(k.List) {
				fuse.Execute(k, at, m, work)
			}
		}
		for _, r := range k.Results {
			if !slices.Equal(work[r].Data, arrays[r].Data) {
				t.Fatalf("%v, not %v", work[r], arrays[r])
			}
		}
	}
}
