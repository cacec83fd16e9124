package nest

import (
	"maps"
	"slices"

	"framewise/api"
	"framewise/array"
	"framewise/clone"
	"framewise/element"
	"framewise/linear"
	"framewise/pull"
)

// Run returns the arrays after a run, the counts, and the violated checks.
func Run(n api.Nest, env []api.Value, arrays []api.Array) (out []api.Array, counts api.Counts, violated []int, e api.Errno) {
	if _, isOnce := names(env); !isOnce {
		return nil, api.Counts{}, nil, api.ErrArg
	}
	r := newRunner(env, clone.Each(arrays, clone.Array))
	if e := r.run(n); e != api.OK {
		return nil, api.Counts{}, nil, e
	}
	return r.arrays, r.total(), r.checks(), api.OK
}

// All returns the arrays of the results, all counts, and the violated checks.
func All(ks api.Kernels, env []api.Value, inputs []api.Array) (results []api.Array, counts api.Counts, violated []int, e api.Errno) {
	r := newRunner(env, make([]api.Array, len(ks.Values)))
	if e := r.all(ks, inputs); e != api.OK {
		return nil, api.Counts{}, nil, e
	}
	for _, v := range ks.Results {
		results = append(results, clone.Array(r.arrays[v]))
	}
	return results, r.total(), r.checks(), api.OK
}

// runner runs nests on its arrays, and counts.
type runner struct {
	env    []api.Value
	arrays []api.Array
	meter  *pull.Meter
	writes int
}

func newRunner(env []api.Value, arrays []api.Array) *runner {
	values := map[string]int{}
	for _, v := range env {
		values[v.Var] = v.N
	}
	return &runner{env: env, arrays: arrays, meter: pull.NewMeter(values)}
}

// total returns all counts so far.
func (r *runner) total() api.Counts {
	return api.Counts{Reads: r.meter.Counts.Reads, Writes: r.writes, Ops: r.meter.Counts.Ops}
}

// checks returns the checks that were violated so far.
func (r *runner) checks() []int { return slices.Sorted(maps.Keys(r.meter.Violated)) }

// run runs a nest.
func (r *runner) run(n api.Nest) api.Errno {
	vars, _ := names(r.env)
	if !Valid(n, vars, len(r.arrays)) || !array.Valid(r.arrays[n.Write.Value]) {
		return api.ErrArg
	}
	index, body := r.evaluation(n.Index), r.evaluation(n.Body)
	for values, e := range walk(n, r.env) {
		if e != api.OK {
			return e
		}
		for _, v := range values[len(r.env):] {
			r.meter.Values[v.Var] = v.N
		}
		at := 0
		if n.Write.Dynamic {
			at = index()
		}
		value := body()
		if r.meter.Err != api.OK {
			return r.meter.Err
		}
		if e := r.store(n, values, at, value); e != api.OK {
			return e
		}
	}
	for _, l := range n.Loops {
		delete(r.meter.Values, l.Var)
	}
	return api.OK
}

// evaluation returns a function that evaluates a pull, which is an error if there is none for the arrays.
func (r *runner) evaluation(p api.Pull) func() int {
	isWrong := slices.ContainsFunc(pull.Reads(p), func(v int) bool { return !array.Valid(r.arrays[v]) })
	return func() int {
		if r.meter.Err == api.OK && isWrong {
			r.meter.Err = api.ErrArg
		}
		if r.meter.Err != api.OK {
			return 0
		}
		return r.meter.Eval(p, r.arrays)
	}
}

// store writes a value at a point, where a last component is given if the nest is dynamic.
func (r *runner) store(n api.Nest, values []api.Value, last, value int) api.Errno {
	out := r.arrays[n.Write.Value]
	var index []int
	for _, l := range n.Write.At {
		x, e := linear.Eval(l, values)
		if e != api.OK {
			return e
		}
		index = append(index, x)
	}
	known := len(index)
	if n.Write.Dynamic {
		index = append(index, last)
	}
	if len(index) != len(out.Dims) {
		return api.ErrRank
	}
	offset, isOutside := 0, false
	for i, x := range index {
		isIn := x >= 0 && x < out.Dims[i]
		if !isIn && i < known {
			return api.ErrRange
		}
		isOutside = isOutside || !isIn
		offset = offset*out.Dims[i] + x
	}
	if !element.Valid(out.Elem, value) {
		return api.ErrType
	}
	r.writes++
	if !isOutside {
		out.Data[offset] = value
	} else if n.Check != 0 {
		r.meter.Violated[n.Check] = true
	}
	return api.OK
}

// all runs the nests of all kernels, whose values have no arrays yet.
func (r *runner) all(ks api.Kernels, inputs []api.Array) api.Errno {
	isNone := func(v int) bool { return v < 0 || v >= len(ks.Values) }
	if _, isOnce := names(r.env); !isOnce || len(inputs) != ks.Inputs || ks.Inputs > len(ks.Values) || slices.ContainsFunc(ks.Results, isNone) {
		return api.ErrArg
	}
	var nests [][]api.Nest
	for k := range ks.List {
		l, e := Of(ks, k, false)
		if e != api.OK {
			return api.ErrArg
		}
		nests = append(nests, l)
	}
	for v, a := range inputs {
		if e := r.input(ks.Values[v], v, a); e != api.OK {
			return e
		}
	}
	computed := map[int]bool{}
	for k, kernel := range ks.List {
		t := ks.Values[kernel.Value]
		dims, e := r.dims(t.Shape.Dims)
		if e != api.OK {
			return e
		}
		size, e := array.Size(dims)
		if e != api.OK {
			return e
		}
		if !computed[kernel.Value] {
			computed[kernel.Value] = true
			r.arrays[kernel.Value] = api.Array{Elem: t.Elem, Dims: dims, Data: make([]int, size)}
		}
		for _, n := range nests[k] {
			if e := r.run(n); e != api.OK {
				return e
			}
		}
	}
	return api.OK
}

// input takes an input, if it has the type of its value.
func (r *runner) input(t api.Type, v int, a api.Array) api.Errno {
	if !array.Valid(a) {
		return api.ErrArg
	}
	if a.Elem != t.Elem {
		return api.ErrType
	}
	dims, e := r.dims(t.Shape.Dims)
	if e != api.OK {
		return e
	}
	if !slices.Equal(dims, a.Dims) {
		return api.ErrShape
	}
	r.arrays[v] = clone.Array(a)
	return api.OK
}

// dims returns the values of dimensions.
func (r *runner) dims(l []api.Linear) ([]int, api.Errno) {
	var dims []int
	for _, x := range l {
		n, e := linear.Eval(x, r.env)
		if e != api.OK {
			return nil, e
		}
		dims = append(dims, n)
	}
	return dims, api.OK
}
