package fuse

import (
	"maps"
	"slices"

	"framewise/api"
	"framewise/array"
	"framewise/clone"
	"framewise/flat"
	"framewise/linear"
	"framewise/pull"
	"framewise/reduce"
)

// Run carries out the kernels, and returns the arrays of all values, and the violated checks.
func Run(k api.Kernels, dims []api.Value, inputs []api.Array) (arrays []api.Array, violated []int, e api.Errno) {
	if e := Start(k, dims, inputs); e != api.OK {
		return nil, nil, e
	}
	arrays = make([]api.Array, len(k.Values))
	for i, a := range inputs {
		arrays[i] = clone.Array(a)
	}
	m := NewMeter(dims)
	for i, kernel := range k.List {
		own, e := Dims(k, i, dims)
		if e != api.OK {
			return nil, nil, e
		}
		if a := &arrays[kernel.Value]; a.Elem == "" {
			*a, _ = array.Zeros(k.Values[kernel.Value].Elem, own)
		}
		if e := Execute(k, i, m, arrays); e != api.OK {
			return nil, nil, e
		}
	}
	return arrays, Violated(m), api.OK
}

// Start returns the first error of a run ahead of the kernels.
func Start(k api.Kernels, dims []api.Value, inputs []api.Array) api.Errno {
	if _, e := Valid(k); e != api.OK {
		return e
	}
	isWrong := func(a api.Array) bool { return !array.Valid(a) }
	if !flat.Fits(k.Vars, dims) || len(inputs) != k.Inputs || slices.ContainsFunc(inputs, isWrong) {
		return api.ErrArg
	}
	if !flat.Holds(k.Where, dims) {
		return api.ErrRange
	}
	return flat.Compare(k.Values[:k.Inputs], dims, inputs)
}

// NewMeter returns a meter for given dimensions.
func NewMeter(dims []api.Value) *pull.Meter {
	values := map[string]int{}
	for _, d := range dims {
		values[d.Var] = d.N
	}
	return pull.NewMeter(values)
}

// Violated returns the checks that were violated.
func Violated(m *pull.Meter) []int { return slices.Sorted(maps.Keys(m.Violated)) }

// Dims returns the dimensions of the value of a kernel, if this and its space are not too great.
func Dims(k api.Kernels, at int, dims []api.Value) ([]int, api.Errno) {
	own, e := numbers(k.Values[k.List[at].Value].Shape.Dims, dims)
	if e != api.OK {
		return nil, e
	}
	_, e = numbers(k.List[at].Space, dims)
	return own, e
}

// numbers returns the values of expressions, if they are dimensions of an array.
func numbers(l []api.Linear, dims []api.Value) ([]int, api.Errno) {
	var out []int
	for _, d := range l {
		n, e := linear.Eval(d, dims)
		if e != api.OK {
			return nil, api.ErrLimit
		}
		out = append(out, n)
	}
	if _, e := array.Size(out); e != api.OK {
		return nil, api.ErrLimit
	}
	return out, api.OK
}

// Execute carries out a kernel of a valid program. The array of its value has memory already, which may be that of another one; elements are written one by one.
func Execute(k api.Kernels, at int, m *pull.Meter, arrays []api.Array) api.Errno {
	kernel := k.List[at]
	out := arrays[kernel.Value]
	space := out.Dims
	if kernel.Kind == api.KernelUpdate {
		space = space[:len(space)-1]
		copy(out.Data, arrays[kernel.Source].Data)
	}
	size, _ := array.Size(space)
	for i := range size {
		index, _ := array.Index(space, i)
		for j, n := range index {
			m.Values[pull.Loop(j)] = n
		}
		switch kernel.Kind {
		case api.KernelMap:
			out.Data[i] = m.Eval(kernel.Body, arrays)
		case api.KernelScan:
			scan(kernel, i, index, m, arrays)
		case api.KernelUpdate:
			update(kernel, i, m, arrays)
		}
		if m.Err != api.OK {
			break
		}
	}
	for j := range space {
		delete(m.Values, pull.Loop(j))
	}
	return m.Err
}

// scan computes an element from the one ahead.
func scan(k api.Kernel, i int, index []int, m *pull.Meter, arrays []api.Array) {
	data := arrays[k.Value].Data
	n := m.Eval(k.Body, arrays)
	if index[len(index)-1] == 0 || m.Err != api.OK {
		data[i] = n
		return
	}
	next, ok := reduce.Carry(k.Fun, []int{data[i-1], n})
	if !ok {
		m.Err = api.ErrType
	}
	data[i] = next
}

// update replaces an element of the list with a number.
func update(k api.Kernel, number int, m *pull.Meter, arrays []api.Array) {
	out := arrays[k.Value]
	length := out.Dims[len(out.Dims)-1]
	at := m.Eval(k.Index, arrays)
	n := m.Eval(k.Body, arrays)
	switch {
	case m.Err != api.OK:
	case at >= 0 && at < length:
		out.Data[number*length+at] = n
	case k.Check != 0:
		m.Violated[k.Check] = true
	}
}
