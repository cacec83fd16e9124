package reduce

import (
	"framewise/api"
	"framewise/array"
	"framewise/cells"
	"framewise/element"
	"framewise/structure"
)

// kind says how instructions of a kind are carried out: the ranks of n arguments, whether so many sizes fit, and the result for cells.
type kind struct {
	ranks func(n int) ([]int, bool)
	sizes func(n int) bool
	apply func(in api.Instr, sizes []int, args []api.Array) (out api.Array, violated bool, e api.Errno)
}

// Ranks returns the ranks of the n arguments of an instruction.
func Ranks(op string, n int) ([]int, bool) {
	k, ok := kindOf(op)
	if !ok {
		return nil, false
	}
	return k.ranks(n)
}

// Instr returns the result of an instruction for a frame, sizes and arguments.
func Instr(in api.Instr, frame, sizes []int, args []api.Array) (out api.Array, violated bool, e api.Errno) {
	k, ok := kindOf(in.Op)
	if !ok {
		return api.Array{}, false, api.ErrName
	}
	ranks, ok := k.ranks(len(args))
	if !ok || !k.sizes(len(sizes)) || in.Num != 0 && in.Op != "chunk" || in.Op == "const" && !array.Valid(in.Array) {
		return api.Array{}, false, api.ErrArg
	}
	if e := cells.Check(frame, in.Axes, ranks, args); e != api.OK {
		return api.Array{}, false, e
	}
	indices, e := cells.Indices(frame)
	if e != api.OK {
		return api.Array{}, false, e
	}
	if len(indices) == 0 {
		out, e = empty(k, in, frame, sizes, ranks, args)
		return out, false, e
	}
	var results []api.Array
	for _, index := range indices {
		var at []api.Array
		for i, a := range args {
			own, _ := cells.Pick(index, in.Axes[i])
			at = append(at, cell(a, ranks[i], own))
		}
		r, isOutside, e := k.apply(in, sizes, at)
		if e != api.OK {
			return api.Array{}, false, e
		}
		results, violated = append(results, r), violated || isOutside
	}
	out, e = cells.Join(frame, results, results[0])
	return out, violated && e == api.OK, e
}

// empty returns the result for a frame without indices.
func empty(k kind, in api.Instr, frame, sizes, ranks []int, args []api.Array) (api.Array, api.Errno) {
	var zeros []api.Array
	for i, a := range args {
		z, e := array.Zeros(a.Elem, a.Dims[len(a.Dims)-ranks[i]:])
		if e != api.OK {
			return api.Array{}, e
		}
		zeros = append(zeros, z)
	}
	sample, _, e := k.apply(in, sizes, zeros)
	if e != api.OK {
		return api.Array{}, e
	}
	return cells.Join(frame, nil, sample)
}

// cell returns a cell of a checked array, whose data are a part of its own.
func cell(a api.Array, rank int, own []int) api.Array {
	at, size := 0, 1
	for i, n := range own {
		at = at*a.Dims[i] + n
	}
	dims := a.Dims[len(own):]
	for _, d := range dims {
		size *= d
	}
	return api.Array{Elem: a.Elem, Dims: dims, Data: a.Data[at*size : (at+1)*size : (at+1)*size]}
}

// kindOf returns the kind of an instruction.
func kindOf(op string) (kind, bool) {
	none := func(n int) bool { return n == 0 }
	switch op {
	case "const":
		return kind{fixed(), none, func(in api.Instr, _ []int, _ []api.Array) (api.Array, bool, api.Errno) {
			return in.Array, false, api.OK
		}}, true
	case "size":
		return kind{fixed(), func(n int) bool { return n == 1 }, func(_ api.Instr, sizes []int, _ []api.Array) (api.Array, bool, api.Errno) {
			a, e := array.Of(api.Int, nil, sizes)
			return a, false, e
		}}, true
	case "fold":
		return kind{fixed(0, 1), none, func(in api.Instr, _ []int, args []api.Array) (api.Array, bool, api.Errno) {
			a, e := Fold(in.Fun, args[0], args[1])
			return a, false, e
		}}, true
	case "scan":
		return kind{fixed(1), none, func(in api.Instr, _ []int, args []api.Array) (api.Array, bool, api.Errno) {
			a, e := Scan(in.Fun, args[0])
			return a, false, e
		}}, true
	}
	if params, _, ok := element.Types(op); ok {
		return kind{fixed(make([]int, len(params))...), none, applyScalar}, true
	}
	return kind{
		func(n int) ([]int, bool) { return structure.Ranks(op, n) },
		func(int) bool { return true },
		func(in api.Instr, sizes []int, args []api.Array) (api.Array, bool, api.Errno) {
			return structure.Apply(in.Op, sizes, in.Num, args)
		},
	}, structure.Is(op)
}

// fixed says that there are just as many arguments as ranks.
func fixed(ranks ...int) func(n int) ([]int, bool) {
	return func(n int) ([]int, bool) {
		if n != len(ranks) {
			return nil, false
		}
		return ranks, true
	}
}

func applyScalar(in api.Instr, _ []int, args []api.Array) (api.Array, bool, api.Errno) {
	var types []string
	var data []int
	for _, a := range args {
		types, data = append(types, a.Elem), append(data, a.Data[0])
	}
	elem, ok := element.Result(in.Op, types)
	if !ok {
		return api.Array{}, false, api.ErrType
	}
	n, _ := element.Apply(in.Op, data)
	return api.Array{Elem: elem, Data: []int{n}}, false, api.OK
}
