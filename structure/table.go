package structure

import "framewise/api"

// arguments has the arguments of a primitive, and its size, or the number of chunk.
type arguments struct {
	size  int
	cells []api.Array
}

// dim returns a dimension of the first argument.
func (a arguments) dim(i int) int { return a.cells[0].Dims[i] }

// data returns an element of an argument.
func (a arguments) data(arg, at int) int { return a.cells[arg].Data[at] }

// isInside reports whether the number of index and update is one of an element.
func (a arguments) isInside() bool { return a.data(1, 0) >= 0 && a.data(1, 0) < a.dim(0) }

// primitive has the ranks of the arguments, the number of sizes, the dimensions of the result for a size or number and the dimensions of all arguments, and the element at an index of the result.
type primitive struct {
	ranks   []int
	sizes   int
	dims    func(k int, n []int) ([]int, api.Errno)
	element func(a arguments, x, y int) int
}

// within returns dimensions, if k is from 0 to n.
func within(k, n int, dims ...int) ([]int, api.Errno) {
	if k < 0 || k > n {
		return nil, api.ErrRange
	}
	return dims, api.OK
}

// fixed returns the first dimensions of the arguments.
func fixed(count int) func(int, []int) ([]int, api.Errno) {
	return func(_ int, n []int) ([]int, api.Errno) { return append([]int(nil), n[:count]...), api.OK }
}

// length returns the size as the only dimension.
func length(k int, _ []int) ([]int, api.Errno) { return within(k, max(k, 0), k) }

// find returns the row of a primitive.
func find(op string) (primitive, bool) {
	first := func(a arguments, x, _ int) int { return a.data(0, x) }
	switch op {
	case "iota":
		return primitive{nil, 1, length, func(_ arguments, x, _ int) int { return x }}, true
	case "fill":
		return primitive{[]int{0}, 1, length, func(a arguments, _, _ int) int { return a.data(0, 0) }}, true
	case "take":
		dims := func(k int, n []int) ([]int, api.Errno) { return within(k, n[0], k) }
		return primitive{[]int{1}, 1, dims, first}, true
	case "drop":
		dims := func(k int, n []int) ([]int, api.Errno) { return within(k, n[0], n[0]-k) }
		return primitive{[]int{1}, 1, dims, func(a arguments, x, _ int) int { return a.data(0, x+a.size) }}, true
	case "reverse":
		return primitive{[]int{1}, 0, fixed(1), func(a arguments, x, _ int) int { return a.data(0, a.dim(0)-1-x) }}, true
	case "append":
		dims := func(_ int, n []int) ([]int, api.Errno) { return []int{n[0] + n[1]}, api.OK }
		return primitive{[]int{1, 1}, 0, dims, appended}, true
	case "transpose":
		dims := func(_ int, n []int) ([]int, api.Errno) { return []int{n[1], n[0]}, api.OK }
		return primitive{[]int{2}, 0, dims, func(a arguments, x, y int) int { return a.data(0, y*a.dim(1)+x) }}, true
	case "diagonal":
		return primitive{[]int{2}, 0, diagonalDims, func(a arguments, x, _ int) int { return a.data(0, x*a.dim(0)+x) }}, true
	case "windows":
		dims := func(k int, n []int) ([]int, api.Errno) { return within(k, n[0], n[0]-k+1, k) }
		return primitive{[]int{1}, 1, dims, func(a arguments, x, y int) int { return a.data(0, x+y) }}, true
	case "chunk":
		return primitive{[]int{1}, 0, chunkDims, func(a arguments, x, y int) int { return a.data(0, x*a.size+y) }}, true
	case "index":
		return primitive{[]int{1, 0}, 0, fixed(0), indexed}, true
	case "update":
		return primitive{[]int{1, 0, 0}, 0, fixed(1), updated}, true
	case "pack":
		return primitive{nil, 0, length, func(a arguments, x, _ int) int { return a.data(x, 0) }}, true
	}
	return primitive{}, false
}

func appended(a arguments, x, _ int) int {
	if x < a.dim(0) {
		return a.data(0, x)
	}
	return a.data(1, x-a.dim(0))
}

func indexed(a arguments, _, _ int) int {
	if !a.isInside() {
		return 0
	}
	return a.data(0, a.data(1, 0))
}

func updated(a arguments, x, _ int) int {
	if x == a.data(1, 0) {
		return a.data(2, 0)
	}
	return a.data(0, x)
}

func diagonalDims(_ int, n []int) ([]int, api.Errno) {
	if n[0] != n[1] {
		return nil, api.ErrShape
	}
	return []int{n[0]}, api.OK
}

func chunkDims(c int, n []int) ([]int, api.Errno) {
	switch {
	case c < 1 || c > maxChunk:
		return nil, api.ErrRange
	case n[0]%c != 0:
		return nil, api.ErrShape
	}
	return []int{n[0] / c, c}, api.OK
}
