package view_test

import (
	"math"
	"math/rand"
	"slices"
	"testing"

	"framewise/api"
	"framewise/array"
	"framewise/view"
)

func of(dims ...int) view.View {
	v, e := view.Of(dims)
	if e != api.OK {
		panic(e)
	}
	return v
}

func equal(v, w view.View) bool {
	return v.Offset == w.Offset && slices.Equal(v.Dims, w.Dims) && slices.Equal(v.Strides, w.Strides)
}

// steps are all steps with a number, where it has one.
func steps(k int) []func(view.View) (view.View, api.Errno) {
	with := func(f func(view.View, int) (view.View, api.Errno)) func(view.View) (view.View, api.Errno) {
		return func(v view.View) (view.View, api.Errno) { return f(v, k) }
	}
	return []func(view.View) (view.View, api.Errno){with(view.Take), with(view.Drop), view.Reverse, view.Transpose, view.Diagonal, with(view.Windows), with(view.Chunk)}
}

func TestSteps(t *testing.T) { // P19.1
	base := view.View{Offset: 5, Dims: []int{2, 4}, Strides: []int{100, 3}}
	square := view.View{Offset: 5, Dims: []int{3, 3}, Strides: []int{100, 3}}
	empty := view.View{Offset: 5, Dims: []int{0}, Strides: []int{7}}
	for i, c := range []struct {
		step, k int
		v, want view.View
		e       api.Errno
	}{
		{0, 3, base, view.View{Offset: 5, Dims: []int{2, 3}, Strides: []int{100, 3}}, api.OK},
		{0, 0, base, view.View{Offset: 5, Dims: []int{2, 0}, Strides: []int{100, 3}}, api.OK},
		{0, 5, base, view.View{}, api.ErrRange}, {0, -1, base, view.View{}, api.ErrRange},
		{1, 3, base, view.View{Offset: 14, Dims: []int{2, 1}, Strides: []int{100, 3}}, api.OK},
		{1, 4, base, view.View{Offset: 5, Dims: []int{2, 0}, Strides: []int{100, 3}}, api.OK},
		{1, 5, base, view.View{}, api.ErrRange},
		{2, 0, base, view.View{Offset: 14, Dims: []int{2, 4}, Strides: []int{100, -3}}, api.OK},
		{2, 0, empty, view.View{Offset: 5, Dims: []int{0}, Strides: []int{-7}}, api.OK},
		{3, 0, base, view.View{Offset: 5, Dims: []int{4, 2}, Strides: []int{3, 100}}, api.OK},
		{4, 0, base, view.View{}, api.ErrShape},
		{4, 0, square, view.View{Offset: 5, Dims: []int{3}, Strides: []int{103}}, api.OK},
		{5, 3, base, view.View{Offset: 5, Dims: []int{2, 2, 3}, Strides: []int{100, 3, 3}}, api.OK},
		{5, 0, base, view.View{Offset: 5, Dims: []int{2, 5, 0}, Strides: []int{100, 3, 3}}, api.OK},
		{5, 5, base, view.View{}, api.ErrRange}, {5, -1, base, view.View{}, api.ErrRange},
		{6, 2, base, view.View{Offset: 5, Dims: []int{2, 2, 2}, Strides: []int{100, 6, 3}}, api.OK},
		{6, 3, base, view.View{}, api.ErrShape}, {6, 0, base, view.View{}, api.ErrRange}, {6, 65, base, view.View{}, api.ErrRange},
		{6, 64, empty, view.View{Offset: 5, Dims: []int{0, 64}, Strides: []int{448, 7}}, api.OK},
		{0, 0, of(), view.View{}, api.ErrRank}, {3, 0, of(4), view.View{}, api.ErrRank}, {4, 0, of(4), view.View{}, api.ErrRank},
		{5, 1, of(1, 1, 1, 1, 1, 1), view.View{}, api.ErrRank}, {5, 7, of(1, 1, 1, 1, 1, 1), view.View{}, api.ErrRange}, {6, 1, of(1, 1, 1, 1, 1, 1), view.View{}, api.ErrRank},
		{5, 0, of(4096), view.View{}, api.ErrRange}, {5, 100, of(4096), view.View{}, api.ErrLimit}, {5, 4096, of(4096), view.View{Dims: []int{1, 4096}, Strides: []int{1, 1}}, api.OK},
		{2, 0, view.View{Dims: []int{1}}, view.View{}, api.ErrArg}, {2, 0, view.View{Dims: []int{-1}, Strides: []int{1}}, view.View{}, api.ErrArg}, {3, 0, view.View{Dims: []int{5000}, Strides: []int{1}}, view.View{}, api.ErrArg},
	} {
		if w, e := steps(c.k)[c.step](c.v); !equal(w, c.want) || e != c.e {
			t.Errorf("%d: %v %d", i, w, e)
		}
	}
	w, _ := view.Reverse(base)
	w.Dims[0], w.Strides[0] = 99, 99
	if base.Dims[0] != 2 || base.Strides[0] != 100 {
		t.Error("memory is shared")
	}
}

func TestOffsets(t *testing.T) { // P19.1
	v := of(2, 3)
	if !slices.Equal(v.Strides, []int{3, 1}) || v.Offset != 0 {
		t.Error("Of")
	}
	w, _ := view.Transpose(v)
	if !slices.Equal(view.Offsets(w), []int{0, 3, 1, 4, 2, 5}) {
		t.Error("transposed")
	}
	w, _ = view.Windows(of(4), 2)
	if !slices.Equal(view.Offsets(w), []int{0, 1, 1, 2, 2, 3}) {
		t.Error("windows")
	}
	if n, e := view.At(w, []int{2, 1}); n != 3 || e != api.OK {
		t.Error("At")
	}
	for _, c := range []struct {
		v     view.View
		index []int
		e     api.Errno
	}{
		{w, []int{2}, api.ErrRank}, {w, []int{3, 0}, api.ErrRange}, {view.View{Dims: []int{1}}, nil, api.ErrArg}, {of(), nil, api.OK},
	} {
		if _, e := view.At(c.v, c.index); e != c.e {
			t.Errorf("%v: %d", c.v, e)
		}
	}
	if view.Offsets(view.View{Dims: []int{1}}) != nil || view.Offsets(view.View{Dims: []int{5000}, Strides: []int{1}}) != nil || !slices.Equal(view.Offsets(view.View{Offset: -7}), []int{-7}) {
		t.Error("Offsets")
	}
	if _, e := view.Of([]int{4096, 2}); e != api.ErrLimit {
		t.Error("Of too many elements")
	}
}

func TestValid(t *testing.T) { // P19.1
	for i, c := range []struct {
		n    int
		v    view.View
		want bool
	}{
		{6, of(2, 3), true}, {5, of(2, 3), false}, {0, of(0), true}, {-5, of(3, 0), true}, {1, of(), true}, {0, of(), false},
		{9, view.View{Offset: 8, Dims: []int{3, 3}, Strides: []int{-3, -1}}, true}, {9, view.View{Offset: 7, Dims: []int{3, 3}, Strides: []int{-3, -1}}, false}, {9, view.View{Offset: 9, Dims: []int{3, 3}, Strides: []int{-3, -1}}, false},
		{9, view.View{Dims: []int{1}, Strides: []int{math.MinInt}}, true}, {9, view.View{Dims: []int{5}, Strides: []int{1 << 62}}, false}, {9, view.View{Dims: []int{3, 2}, Strides: []int{math.MaxInt, math.MinInt}}, false},
		{math.MaxInt, view.View{Dims: []int{2}, Strides: []int{math.MaxInt - 1}}, true}, {math.MaxInt, view.View{Dims: []int{2}, Strides: []int{math.MaxInt}}, false}, {math.MaxInt, view.View{Dims: []int{2, 2}, Strides: []int{math.MaxInt, -1}}, false}, {math.MaxInt, view.View{Offset: math.MaxInt, Dims: []int{2, 2}, Strides: []int{-math.MaxInt, math.MinInt}}, false},
		{9, view.View{Dims: []int{1}}, false}, {9, view.View{Dims: []int{-1}, Strides: []int{1}}, false}, {9, view.View{Dims: []int{0, 5000}, Strides: []int{1, 1}}, false},
	} {
		if view.Valid(c.n, c.v) != c.want {
			t.Errorf("%d", i)
		}
	}
}

func TestInside(t *testing.T) { // P19.2, P19.3
	r := rand.New(rand.NewSource(1))
	for i := 0; i < 3000; i++ {
		var dims []int
		for j := r.Intn(4); j > 0; j-- {
			dims = append(dims, r.Intn(5))
		}
		v := of(dims...)
		size, _ := array.Size(dims)
		data := make([]int, size)
		for j := range data {
			data[j] = r.Intn(100)
		}
		a, _ := array.Of("int", dims, data)
		if c, e := view.Copy(a, v); !array.Equal(a, c) || e != api.OK {
			t.Fatalf("%v: %v", a, c)
		}
		for j := r.Intn(6); j > 0; j-- {
			w, e := steps(r.Intn(4))[r.Intn(7)](v)
			if e != api.OK {
				continue
			}
			v = w
			if !view.Valid(size, v) {
				t.Fatalf("%v: %v", dims, v)
			}
		}
		c, e := view.Copy(a, v)
		offsets := view.Offsets(v)
		for j, o := range offsets {
			if c.Data[j] != data[o] {
				t.Fatalf("%v: %v", v, c)
			}
		}
		if e != api.OK || !slices.Equal(c.Dims, v.Dims) {
			t.Fatalf("%v: %v %d", v, c, e)
		}
		for _, k := range []int{2, 3} {
			w, e := steps(0)[k](v)
			if e != api.OK {
				continue
			}
			if w, _ = steps(0)[k](w); !slices.Equal(view.Offsets(w), offsets) {
				t.Fatalf("%v twice: %v", v, w)
			}
		}
	}
	a, _ := array.Zeros("int", []int{3})
	if _, e := view.Copy(a, of(4)); e != api.ErrArg {
		t.Error("a view that is not valid")
	}
	if _, e := view.Copy(api.Array{}, of()); e != api.ErrArg {
		t.Error("an array that is not valid")
	}
}

func TestParts(t *testing.T) { // P19.4, P19.5
	for n := 0; n < 9; n++ {
		v := view.View{Offset: 50, Dims: []int{n}, Strides: []int{-3}}
		all := view.Offsets(v)
		for k := 0; k <= n; k++ {
			a, _ := view.Take(v, k)
			b, _ := view.Drop(v, k)
			if !slices.Equal(append(view.Offsets(a), view.Offsets(b)...), all) {
				t.Errorf("%d %d", n, k)
			}
			w, _ := view.Windows(v, k)
			for i := 0; i < n-k+1 && k > 0; i++ {
				if !slices.Equal(view.Offsets(w)[i*k:i*k+k], all[i:i+k]) {
					t.Errorf("windows %d %d", n, k)
				}
			}
			if c, e := view.Chunk(v, k); e == api.OK && !slices.Equal(view.Offsets(c), all) {
				t.Errorf("chunk %d %d", n, k)
			}
		}
		m := of(n, n)
		d, e := view.Diagonal(m)
		for i, o := range view.Offsets(d) {
			if at, _ := view.At(m, []int{i, i}); at != o || e != api.OK {
				t.Errorf("diagonal %d", n)
			}
		}
	}
}
