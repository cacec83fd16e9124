package cells_test

import (
	"math/rand"
	"slices"
	"testing"

	"framewise/api"
	"framewise/array"
	"framewise/cells"
)

func of(dims ...int) api.Array {
	n, e := array.Size(dims)
	if e != api.OK {
		panic(e)
	}
	a := api.Array{Elem: "int", Dims: dims}
	for i := range n {
		a.Data = append(a.Data, i)
	}
	return a
}

func TestSplit(t *testing.T) { // P20.1
	frame, cell, e := cells.Split(of(2, 3, 4), 2)
	if !slices.Equal(frame, []int{2}) || !slices.Equal(cell, []int{3, 4}) || e != api.OK {
		t.Errorf("%v %v %d", frame, cell, e)
	}
	for i, c := range []struct {
		a    api.Array
		rank int
		e    api.Errno
	}{
		{of(2, 3), 3, api.ErrRank}, {of(2, 3), -1, api.ErrRank}, {of(2, 3), 0, api.OK}, {of(), 0, api.OK}, {of(), 1, api.ErrRank}, {api.Array{}, -1, api.ErrArg},
	} {
		if _, _, e := cells.Split(c.a, c.rank); e != c.e {
			t.Errorf("%d: %d", i, e)
		}
	}
}

func TestFrame(t *testing.T) { // P20.1, P20.3
	for i, c := range []struct {
		args   []api.Array
		ranks  []int
		frame  []int
		framed []bool
		e      api.Errno
	}{
		{[]api.Array{of(2, 3), of(3)}, []int{1, 1}, []int{2}, []bool{true, false}, api.OK},
		{[]api.Array{of(2, 3), of(3)}, []int{0, 0}, nil, nil, api.ErrRank},
		{[]api.Array{of(2, 3), of(3)}, []int{1, 0}, nil, nil, api.ErrShape},
		{[]api.Array{of(), of(2, 3), of(), of(2, 3)}, []int{0, 0, 0, 0}, []int{2, 3}, []bool{false, true, false, true}, api.OK},
		{[]api.Array{of(2), of(3), of()}, []int{0, 0, 5}, nil, nil, api.ErrShape},
		{[]api.Array{of(2), {}, of(3)}, []int{0, 0, 0}, nil, nil, api.ErrArg},
		{[]api.Array{of(2), of(), {}}, []int{0, 1, 0}, nil, nil, api.ErrRank},
		{[]api.Array{of(2)}, nil, nil, nil, api.ErrArg},
		{nil, nil, nil, nil, api.OK},
	} {
		frame, framed, e := cells.Frame(c.args, c.ranks)
		if !slices.Equal(frame, c.frame) || !slices.Equal(framed, c.framed) || e != c.e {
			t.Errorf("%d: %v %v %d", i, frame, framed, e)
		}
		slices.Reverse(c.args)
		slices.Reverse(c.ranks)
		if again, _, f := cells.Frame(c.args, c.ranks); e == api.OK && (f != api.OK || !slices.Equal(again, frame)) {
			t.Errorf("%d in the opposite order: %v %d", i, again, f)
		}
	}
}

func TestCheck(t *testing.T) { // P20.1
	for i, c := range []struct {
		frame []int
		axes  [][]int
		ranks []int
		args  []api.Array
		e     api.Errno
	}{
		{[]int{2, 3}, [][]int{{0, 1}, {1}, nil}, []int{0, 1, 0}, []api.Array{of(2, 3), of(3, 7), of()}, api.OK},
		{[]int{2, 3}, [][]int{{0}}, []int{0}, []api.Array{of(3)}, api.ErrShape},
		{[]int{2, 3}, [][]int{{0}}, []int{1}, []api.Array{of(2)}, api.ErrRank},
		{[]int{2, 3}, [][]int{{0}}, []int{-1}, []api.Array{of()}, api.ErrRank},
		{[]int{2, 3}, [][]int{{1, 0}}, []int{0}, []api.Array{of(3, 2)}, api.ErrArg},
		{[]int{2, 3}, [][]int{{0, 0}}, []int{0}, []api.Array{of(2, 2)}, api.ErrArg},
		{[]int{2, 3}, [][]int{{2}}, []int{0}, []api.Array{of(2)}, api.ErrArg},
		{[]int{2, 3}, [][]int{{-1}}, []int{0}, []api.Array{of(2)}, api.ErrArg},
		{[]int{2, 3}, [][]int{{0}}, []int{0}, []api.Array{{}}, api.ErrArg},
		{[]int{2, 3}, [][]int{{0}, {0}}, []int{0}, []api.Array{of(2)}, api.ErrArg},
		{[]int{2, 3}, [][]int{{0}}, nil, []api.Array{of(2)}, api.ErrArg},
		{[]int{-1}, nil, nil, nil, api.ErrArg},
		{make([]int, 7), nil, nil, nil, api.ErrArg},
		{[]int{4096, 2}, nil, nil, nil, api.ErrLimit},
		{[]int{4096, 2}, [][]int{{7}}, []int{0}, []api.Array{{}}, api.ErrLimit},
		{[]int{2, 3}, [][]int{{0}, {5}}, []int{0, 0}, []api.Array{of(3), of()}, api.ErrShape},
	} {
		if e := cells.Check(c.frame, c.axes, c.ranks, c.args); e != c.e {
			t.Errorf("%d: %d", i, e)
		}
	}
	if l, ok := cells.Pick([]int{5, 6, 7}, []int{0, 2}); !slices.Equal(l, []int{5, 7}) || !ok {
		t.Error("Pick")
	}
	if l, ok := cells.Pick([]int{5, 6, 7}, []int{2, 0}); l != nil || ok {
		t.Error("Pick without axes")
	}
}

func TestCell(t *testing.T) { // P20.1
	c, e := cells.Cell(of(2, 3, 2), 1, []int{1, 2})
	if !array.Equal(c, api.Array{Elem: "int", Dims: []int{2}, Data: []int{10, 11}}) || e != api.OK {
		t.Errorf("%v %d", c, e)
	}
	huge := api.Array{Elem: "int", Dims: []int{4096, 4096, 0}}
	for i, c := range []struct {
		a    api.Array
		rank int
		own  []int
		e    api.Errno
	}{
		{of(2, 3), 3, nil, api.ErrRank}, {of(2, 3), 1, nil, api.ErrRank}, {of(2, 3), 1, []int{2}, api.ErrRange}, {of(2, 3), 1, []int{-1}, api.ErrRange}, {api.Array{}, 0, nil, api.ErrArg}, {huge, 1, []int{4095, 4095}, api.OK}, {huge, 1, []int{4095, 4096}, api.ErrRange}, {of(), 0, nil, api.OK},
	} {
		if _, e := cells.Cell(c.a, c.rank, c.own); e != c.e {
			t.Errorf("%d: %d", i, e)
		}
	}
	a := of(2, 2)
	part, _ := cells.Cell(a, 1, []int{0})
	part.Data[0] = 99
	if part.Data = append(part.Data, 99); a.Data[0] != 0 || a.Data[2] != 2 {
		t.Error("memory is shared")
	}
}

func TestJoin(t *testing.T) { // P20.1
	truth := api.Array{Elem: "bool", Dims: []int{2}, Data: []int{0, 1}}
	for i, c := range []struct {
		frame  []int
		cells  []api.Array
		sample api.Array
		e      api.Errno
	}{
		{[]int{2}, []api.Array{of(2), of(2)}, of(2), api.OK}, {nil, []api.Array{of(2)}, of(2), api.OK}, {[]int{0, 5}, nil, of(2), api.OK},
		{[]int{2}, []api.Array{of(2), {}}, of(2), api.ErrArg}, {[]int{-1}, nil, api.Array{}, api.ErrArg}, {[]int{-1}, nil, of(2), api.ErrRange}, {[]int{4096, 2}, nil, of(2), api.ErrLimit}, {make([]int, 7), nil, of(2), api.ErrRank}, {[]int{2}, []api.Array{of(2)}, of(2), api.ErrArg},
		{[]int{2}, []api.Array{of(2), truth}, of(2), api.ErrType}, {[]int{2}, []api.Array{of(3), truth}, of(2), api.ErrShape}, {[]int{1}, []api.Array{truth}, truth, api.OK}, {[]int{0, 1, 1}, nil, of(1, 1, 1, 1), api.ErrRank}, {[]int{2}, []api.Array{of(4096), of(4096)}, of(4096), api.ErrLimit},
	} {
		a, e := cells.Join(c.frame, c.cells, c.sample)
		if e != c.e || e == api.OK && !slices.Equal(a.Dims, append(slices.Clone(c.frame), c.sample.Dims...)) || e != api.OK && a.Elem != "" {
			t.Errorf("%d: %v %d", i, a, e)
		}
	}
	if _, e := cells.Indices([]int{-1}); e != api.ErrRange {
		t.Error("Indices")
	}
	if l, e := cells.Indices([]int{2, 2}); !slices.EqualFunc(l, [][]int{{0, 0}, {0, 1}, {1, 0}, {1, 1}}, slices.Equal) || e != api.OK {
		t.Error("Indices")
	}
}

func TestJoining(t *testing.T) { // P20.2, P20.4
	r := rand.New(rand.NewSource(1))
	for i := 0; i < 500; i++ {
		var dims []int
		for j := r.Intn(4); j > 0; j-- {
			dims = append(dims, r.Intn(4))
		}
		a := of(dims...)
		rank := r.Intn(len(dims) + 1)
		frame, cell, _ := cells.Split(a, rank)
		indices, _ := cells.Indices(frame)
		var l []api.Array
		for _, own := range indices {
			c, e := cells.Cell(a, rank, own)
			if e != api.OK {
				t.Fatalf("%v %d %v: %d", dims, rank, own, e)
			}
			l = append(l, c)
		}
		sample, _ := array.Zeros("int", cell)
		if b, e := cells.Join(frame, l, sample); !array.Equal(a, b) || e != api.OK {
			t.Fatalf("%v %d: %v", dims, rank, b)
		}
		args, ranks := []api.Array{a, of(3), a}, []int{rank, 1, rank}
		common, framed, e := cells.Frame(args, ranks)
		if e != api.OK || !slices.Equal(common, frame) {
			t.Fatalf("%v: %v %d", dims, common, e)
		}
		axes := make([][]int, 3)
		for j, f := range framed {
			for k := 0; f && k < len(common); k++ {
				axes[j] = append(axes[j], k)
			}
		}
		if e := cells.Check(common, axes, ranks, args); e != api.OK {
			t.Fatalf("%v: %d", dims, e)
		}
	}
}
