package plan

import (
	"framewise/api"
	"framewise/clone"
	"framewise/fuse"
	"framewise/lifetime"
)

// Run carries out a fused program in the arena of a plan.
func Run(k api.Kernels, p api.Plan, dims []api.Value, inputs []api.Array) (results []api.Array, violated []int, e api.Errno) {
	if e := fuse.Start(k, dims, inputs); e != api.OK {
		return nil, nil, e
	}
	if _, e := lifetime.Sizes(k, dims); e != api.OK {
		return nil, nil, e
	}
	if !Sound(k, p, dims) {
		return nil, nil, api.ErrPlan
	}
	arena := make([]int, p.Peak)
	arrays := make([]api.Array, len(k.Values))
	place := func(v int, dims []int) {
		x := p.Places[v]
		arrays[v] = api.Array{Elem: k.Values[v].Elem, Dims: dims, Data: arena[x.Offset : x.Offset+x.Size]}
	}
	for v, a := range inputs {
		place(v, a.Dims)
		copy(arrays[v].Data, a.Data)
	}
	m := fuse.NewMeter(dims)
	for i, kernel := range k.List {
		own, e := fuse.Dims(k, i, dims)
		if e != api.OK {
			return nil, nil, e
		}
		place(kernel.Value, own)
		if e := fuse.Execute(k, i, m, arrays); e != api.OK {
			return nil, nil, e
		}
	}
	for _, r := range k.Results {
		results = append(results, clone.Array(arrays[r]))
	}
	return results, fuse.Violated(m), api.OK
}
