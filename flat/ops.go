package flat

import (
	"slices"

	"framewise/api"
	"framewise/array"
	"framewise/element"
	"framewise/linear"
	"framewise/reduce"
)

// The limits of literal numbers, and of the arguments of pack.
const (
	maxChunk = 64
	maxPack  = 16
)

// cellType is the element type and the dimensions of cells.
type cellType struct {
	elem string
	dims []api.Linear
}

// operation says which fields instructions have besides arguments, frame and axes, and returns the result cell for the cells of the arguments, and the conditions.
type operation struct {
	sizes                              int
	hasNum, hasArray, hasFun, hasCheck bool
	apply                              func(in api.Instr, args []cellType) (cell cellType, conds []api.Linear, ok bool)
}

// operations returns the operations by their names.
func operations() map[string]operation {
	l := map[string]operation{
		"const":     {hasArray: true, apply: constant},
		"size":      {sizes: 1, apply: size},
		"iota":      {sizes: 1, apply: iotaOrFill},
		"fill":      {sizes: 1, apply: iotaOrFill},
		"take":      {sizes: 1, apply: part},
		"drop":      {sizes: 1, apply: part},
		"windows":   {sizes: 1, apply: part},
		"reverse":   {apply: list},
		"scan":      {hasFun: true, apply: scan},
		"append":    {apply: appended},
		"transpose": {apply: matrix},
		"diagonal":  {apply: matrix},
		"chunk":     {hasNum: true, apply: chunk},
		"index":     {hasCheck: true, apply: indexed},
		"update":    {hasCheck: true, apply: indexed},
		"pack":      {apply: pack},
		"fold":      {hasFun: true, apply: fold},
	}
	for _, op := range element.Ops() {
		l[op] = operation{apply: scalar}
	}
	return l
}

// infer returns the type of an instruction whose arguments are values, and its conditions.
func infer(ops map[string]operation, values []api.Type, in api.Instr) (api.Type, []api.Linear, bool) {
	op, ok := ops[in.Op]
	isWrong := func(l api.Linear) bool { return !linear.Valid(l) }
	if !ok || len(in.Sizes) != op.sizes || in.Num != 0 && !op.hasNum || in.Check < 0 || in.Check != 0 && !op.hasCheck || len(in.Fun) > 0 && !op.hasFun ||
		!op.hasArray && !array.Equal(in.Array, api.Array{}) || slices.ContainsFunc(in.Frame, isWrong) || slices.ContainsFunc(in.Sizes, isWrong) || len(in.Axes) != len(in.Args) {
		return api.Type{}, nil, false
	}
	var args []cellType
	for i, a := range in.Args {
		t := values[a]
		axes := in.Axes[i]
		if len(axes) > len(t.Shape.Dims) {
			return api.Type{}, nil, false
		}
		for j, x := range axes {
			if x < 0 || x >= len(in.Frame) || j > 0 && axes[j-1] >= x || !linear.Equal(in.Frame[x], t.Shape.Dims[j]) {
				return api.Type{}, nil, false
			}
		}
		args = append(args, cellType{t.Elem, t.Shape.Dims[len(axes):]})
	}
	cell, conds, ok := op.apply(in, args)
	dims := slices.Concat(in.Frame, cell.dims)
	if !ok || len(dims) > api.MaxRank || slices.ContainsFunc(cell.dims, isWrong) {
		return api.Type{}, nil, false
	}
	return api.Type{Elem: cell.elem, Shape: api.Shape{Dims: dims}}, conds, true
}

// ranks reports whether cells have just some ranks.
func ranks(args []cellType, want ...int) bool {
	return slices.EqualFunc(args, want, func(c cellType, n int) bool { return len(c.dims) == n })
}

func scalar(in api.Instr, args []cellType) (cellType, []api.Linear, bool) {
	var elems []string
	for _, c := range args {
		elems = append(elems, c.elem)
	}
	elem, ok := element.Result(in.Op, elems)
	return cellType{elem: elem}, nil, ok && ranks(args, make([]int, len(args))...)
}

func constant(in api.Instr, args []cellType) (cellType, []api.Linear, bool) {
	c := cellType{elem: in.Array.Elem}
	for _, d := range in.Array.Dims {
		c.dims = append(c.dims, linear.Of(d))
	}
	return c, nil, len(args) == 0 && array.Valid(in.Array)
}

func size(_ api.Instr, args []cellType) (cellType, []api.Linear, bool) {
	return cellType{elem: api.Int}, nil, len(args) == 0
}

func iotaOrFill(in api.Instr, args []cellType) (cellType, []api.Linear, bool) {
	k := in.Sizes[0]
	c := cellType{api.Int, []api.Linear{k}}
	if in.Op == "iota" {
		return c, []api.Linear{k}, len(args) == 0
	}
	if !ranks(args, 0) {
		return cellType{}, nil, false
	}
	c.elem = args[0].elem
	return c, []api.Linear{k}, true
}

// part is for take, drop and windows.
func part(in api.Instr, args []cellType) (cellType, []api.Linear, bool) {
	if !ranks(args, 1) {
		return cellType{}, nil, false
	}
	k := in.Sizes[0]
	rest, e := linear.Sub(args[0].dims[0], k)
	count, f := linear.Add(rest, linear.Of(1))
	conds := []api.Linear{k, rest}
	switch in.Op {
	case "take":
		return cellType{args[0].elem, []api.Linear{k}}, conds, e == api.OK
	case "drop":
		return cellType{args[0].elem, []api.Linear{rest}}, conds, e == api.OK
	}
	return cellType{args[0].elem, []api.Linear{count, k}}, conds, e == api.OK && f == api.OK
}

func list(_ api.Instr, args []cellType) (cellType, []api.Linear, bool) {
	if !ranks(args, 1) {
		return cellType{}, nil, false
	}
	return args[0], nil, true
}

func scan(in api.Instr, args []cellType) (cellType, []api.Linear, bool) {
	if !ranks(args, 1) {
		return cellType{}, nil, false
	}
	elem, ok := reduce.Type(in.Fun, []string{args[0].elem, args[0].elem})
	return args[0], nil, ok && elem == args[0].elem
}

func fold(in api.Instr, args []cellType) (cellType, []api.Linear, bool) {
	if !ranks(args, 0, 1) {
		return cellType{}, nil, false
	}
	elem, ok := reduce.Type(in.Fun, []string{args[0].elem, args[1].elem})
	return args[0], nil, ok && elem == args[0].elem
}

func appended(_ api.Instr, args []cellType) (cellType, []api.Linear, bool) {
	if !ranks(args, 1, 1) || args[0].elem != args[1].elem {
		return cellType{}, nil, false
	}
	n, e := linear.Add(args[0].dims[0], args[1].dims[0])
	return cellType{args[0].elem, []api.Linear{n}}, nil, e == api.OK
}

// matrix is for transpose and diagonal.
func matrix(in api.Instr, args []cellType) (cellType, []api.Linear, bool) {
	if !ranks(args, 2) {
		return cellType{}, nil, false
	}
	n, m := args[0].dims[0], args[0].dims[1]
	if in.Op == "transpose" {
		return cellType{args[0].elem, []api.Linear{m, n}}, nil, true
	}
	return cellType{args[0].elem, []api.Linear{n}}, nil, linear.Equal(n, m)
}

func chunk(in api.Instr, args []cellType) (cellType, []api.Linear, bool) {
	c := in.Num
	if !ranks(args, 1) || c < 1 || c > maxChunk {
		return cellType{}, nil, false
	}
	d := args[0].dims[0]
	rows := api.Linear{Const: d.Const / c}
	isWhole := d.Const%c == 0
	for _, t := range d.Terms {
		isWhole = isWhole && t.C%c == 0
		rows.Terms = append(rows.Terms, api.Coef{Var: t.Var, C: t.C / c})
	}
	return cellType{args[0].elem, []api.Linear{rows, linear.Of(c)}}, nil, isWhole
}

// indexed is for index and update.
func indexed(in api.Instr, args []cellType) (cellType, []api.Linear, bool) {
	if in.Op == "index" {
		if !ranks(args, 1, 0) || args[1].elem != api.Int {
			return cellType{}, nil, false
		}
		return cellType{elem: args[0].elem}, nil, true
	}
	if !ranks(args, 1, 0, 0) || args[1].elem != api.Int || args[2].elem != args[0].elem {
		return cellType{}, nil, false
	}
	return args[0], nil, true
}

func pack(_ api.Instr, args []cellType) (cellType, []api.Linear, bool) {
	if len(args) < 1 || len(args) > maxPack || !ranks(args, make([]int, len(args))...) {
		return cellType{}, nil, false
	}
	isOther := func(c cellType) bool { return c.elem != args[0].elem }
	return cellType{args[0].elem, []api.Linear{linear.Of(len(args))}}, nil, !slices.ContainsFunc(args, isOther)
}
