package array_test

import (
	"math"
	"math/rand"
	"slices"
	"strings"
	"testing"

	"framewise/api"
	"framewise/array"
)

func of(elem string, dims []int, data ...int) api.Array {
	a, e := array.Of(elem, dims, data)
	if e != api.OK {
		panic(e)
	}
	return a
}

func TestSize(t *testing.T) { // P18.1
	for i, c := range []struct {
		dims []int
		want int
		e    api.Errno
	}{
		{nil, 1, api.OK}, {[]int{2, 3}, 6, api.OK}, {[]int{4096}, 4096, api.OK}, {[]int{4097}, 0, api.ErrRange}, {[]int{-1}, 0, api.ErrRange}, {[]int{4096, 2}, 0, api.ErrLimit}, {[]int{4096, 4096, 0}, 0, api.OK}, {[]int{4096, 4096, 4096, 4096, 4096, 4096}, 0, api.ErrLimit}, {[]int{1, 1, 1, 1, 1, 1}, 1, api.OK}, {[]int{1, 1, 1, 1, 1, 1, -1}, 0, api.ErrRank}, {[]int{4096, 4096, -1}, 0, api.ErrRange}, {[]int{64, 64}, 4096, api.OK}, {[]int{math.MinInt, 0}, 0, api.ErrRange},
	} {
		if n, e := array.Size(c.dims); n != c.want || e != c.e {
			t.Errorf("%d: %d %d", i, n, e)
		}
	}
}

func TestOrder(t *testing.T) { // P18.2
	r := rand.New(rand.NewSource(1))
	for i := 0; i < 300; i++ {
		var dims []int
		for j := r.Intn(5); j > 0; j-- {
			dims = append(dims, 1+r.Intn(4))
		}
		size, _ := array.Size(dims)
		var before []int
		for o := 0; o < size; o++ {
			index, e := array.Index(dims, o)
			back, f := array.Offset(dims, index)
			if e != api.OK || f != api.OK || back != o || o > 0 && slices.Compare(before, index) >= 0 {
				t.Fatalf("%v: %d %v", dims, o, index)
			}
			before = index
		}
	}
	for i, c := range []struct {
		dims, index []int
		want        int
		e           api.Errno
	}{
		{[]int{2, 3}, []int{1, 0}, 3, api.OK}, {nil, nil, 0, api.OK}, {[]int{2, 3}, []int{1}, 0, api.ErrRank}, {[]int{2, 3}, []int{2, 0}, 0, api.ErrRange}, {[]int{2, 3}, []int{0, -1}, 0, api.ErrRange}, {[]int{0}, []int{0}, 0, api.ErrRange}, {[]int{-1}, nil, 0, api.ErrRange}, {[]int{4096, 2}, nil, 0, api.ErrLimit},
	} {
		if n, e := array.Offset(c.dims, c.index); n != c.want || e != c.e {
			t.Errorf("%d: %d %d", i, n, e)
		}
	}
	for i, c := range []struct {
		dims []int
		o    int
		e    api.Errno
	}{
		{[]int{2, 3}, 6, api.ErrRange}, {[]int{2, 3}, -1, api.ErrRange}, {[]int{0}, 0, api.ErrRange}, {nil, 0, api.OK}, {[]int{4097}, 0, api.ErrRange}, {make([]int, 7), 0, api.ErrRank},
	} {
		if l, e := array.Index(c.dims, c.o); e != c.e || len(l) != 0 {
			t.Errorf("%d: %v %d", i, l, e)
		}
	}
}

func TestOf(t *testing.T) { // P18.1
	for i, c := range []struct {
		elem       string
		dims, data []int
		e          api.Errno
	}{
		{"int", []int{2}, []int{1, -5}, api.OK}, {"bool", []int{2}, []int{1, 0}, api.OK}, {"A", []int{-1}, nil, api.ErrType}, {"", nil, []int{0}, api.ErrType}, {"int", []int{-1}, []int{1 << 40}, api.ErrRange}, {"int", make([]int, 7), nil, api.ErrRank}, {"int", []int{4096, 2}, nil, api.ErrLimit}, {"int", []int{2}, []int{1 << 40}, api.ErrArg}, {"int", []int{1}, []int{1 << 31}, api.ErrRange}, {"bool", []int{1}, []int{2}, api.ErrRange}, {"int", nil, nil, api.ErrArg}, {"int", []int{0}, nil, api.OK},
	} {
		a, e := array.Of(c.elem, c.dims, c.data)
		raw := api.Array{Elem: c.elem, Dims: c.dims, Data: c.data}
		if e != c.e || array.Valid(raw) != (e == api.OK) || e == api.OK && !array.Equal(a, raw) || e != api.OK && a.Elem != "" {
			t.Errorf("%d: %v %d", i, a, e)
		}
		_, f := array.At(raw, nil)
		_, g := array.Set(raw, nil, 0)
		if _, h := array.Print(raw); e != api.OK && (f != api.ErrArg || g != api.ErrArg || h != api.ErrArg) {
			t.Errorf("%d: %d %d %d", i, f, g, h)
		}
	}
	dims, data := []int{2}, []int{3, 4}
	a := of("int", dims, data...)
	a.Dims[0], a.Data[0] = 9, 9
	if b, _ := array.Of("int", dims, data); dims[0] != 2 || data[0] != 3 || b.Data[0] != 3 {
		t.Error("memory is shared")
	}
	if z, e := array.Zeros("bool", []int{2, 2}); !array.Equal(z, of("bool", []int{2, 2}, 0, 0, 0, 0)) || e != api.OK {
		t.Error("Zeros")
	}
	if _, e := array.Zeros("A", []int{-1}); e != api.ErrType {
		t.Error("Zeros of another type")
	}
	if _, e := array.Zeros("int", []int{4096, 2}); e != api.ErrLimit {
		t.Error("Zeros of too many elements")
	}
	if !array.Equal(api.Array{}, api.Array{Dims: []int{}, Data: []int{}}) || array.Equal(of("int", nil, 1), of("bool", nil, 1)) || array.Equal(of("int", []int{1}, 1), of("int", nil, 1)) || array.Equal(of("int", nil, 2), of("int", nil, 1)) {
		t.Error("Equal")
	}
}

func TestElements(t *testing.T) { // P18.3
	a := of("int", []int{2, 3}, 1, 2, 3, 4, 5, 6)
	b, e := array.Set(a, []int{1, 0}, -7)
	if !array.Equal(b, of("int", []int{2, 3}, 1, 2, 3, -7, 5, 6)) || e != api.OK || a.Data[3] != 4 {
		t.Errorf("%v %d", b, e)
	}
	if n, e := array.At(b, []int{1, 0}); n != -7 || e != api.OK {
		t.Errorf("%d %d", n, e)
	}
	if c, _ := array.Set(a, []int{0, 2}, 3); !array.Equal(a, c) {
		t.Error("setting the element that is there")
	}
	for i, c := range []struct {
		index []int
		n     int
		e     api.Errno
	}{
		{[]int{1}, 1 << 40, api.ErrRank}, {[]int{1, 3}, 1 << 40, api.ErrRange}, {[]int{1, 2}, 1 << 40, api.ErrRange}, {[]int{1, 2}, 1, api.OK},
	} {
		if _, e := array.Set(a, c.index, c.n); e != c.e {
			t.Errorf("%d: %d", i, e)
		}
	}
	if _, e := array.At(a, []int{0}); e != api.ErrRank {
		t.Error("At with a short index")
	}
}

func TestTexts(t *testing.T) { // P18.4
	for _, c := range []struct {
		a    api.Array
		want string
	}{
		{of("int", []int{2, 3}, 1, 2, 3, 4, 5, 6), "#[2 3: 1 2 3 4 5 6]"}, {of("int", nil, -5), "#[: -5]"}, {of("int", []int{0}), "#[0:]"}, {of("bool", []int{2}, 0, 1), "#b[2: 0 1]"}, {of("bool", nil, 1), "#b[: 1]"}, {of("int", []int{3, 0, 2}), "#[3 0 2:]"}, {of("int", nil, -1<<31), "#[: -2147483648]"},
	} {
		s, e := array.Print(c.a)
		back, f := array.Parse(c.want)
		if s != c.want || e != api.OK || !array.Equal(back, c.a) || f != api.OK {
			t.Errorf("%s: %s %v", c.want, s, back)
		}
	}
	for _, s := range []string{"", "#", "#[", "#[]", "#[:]", "[: 1]", "#[:1]", "#[: 1", "#[:  1]", "#[: 1 ]", "#[ 1: 1]", "#[1 : 1]", "#[1:1]", "#[2: 1]", "#[1: 1 2]", "#[: 01]", "#[: -0]", "#[: +1]", "#[01: 1]", "#[: 2147483648]", "#b[: 2]", "#i[: 1]", "#[-1:]", "#[: 1]]", "#[: 1:]", "#[: a]", "#[: 1\n]", "#[1 1 1 1 1 1 1: 1]", "#[4096 4096:]", "#[: 99999999999999999999]", "#[:" + strings.Repeat(" 1", 100000) + "]"} {
		if a, e := array.Parse(s); e != api.ErrSyntax || a.Elem != "" {
			t.Errorf("%.30q: %v %d", s, a, e)
		}
	}
}
