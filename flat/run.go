package flat

import (
	"maps"
	"slices"
	"strconv"
	"strings"

	"framewise/api"
	"framewise/array"
	"framewise/binding"
	"framewise/clone"
	"framewise/linear"
	"framewise/poly"
	"framewise/reduce"
	"framewise/types"
)

// Run returns the arrays of the results, and the violated checks.
func Run(f api.Flat, dims []api.Value, inputs []api.Array) (results []api.Array, violated []int, e api.Errno) {
	if _, e := Valid(f); e != api.OK {
		return nil, nil, e
	}
	isWrong := func(a api.Array) bool { return !array.Valid(a) }
	if !Fits(f.Vars, dims) || len(inputs) != len(f.Inputs) || slices.ContainsFunc(inputs, isWrong) {
		return nil, nil, api.ErrArg
	}
	if !Holds(f.Where, dims) {
		return nil, nil, api.ErrRange
	}
	if e := Compare(f.Inputs, dims, inputs); e != api.OK {
		return nil, nil, e
	}
	values := slices.Clone(inputs)
	checks := map[int]bool{}
	for _, in := range f.Code {
		out, isOutside, e := carryOut(in, dims, values)
		if e != api.OK {
			return nil, nil, e
		}
		if isOutside && in.Check != 0 {
			checks[in.Check] = true
		}
		values = append(values, out)
	}
	for _, r := range f.Results {
		results = append(results, clone.Array(values[r]))
	}
	return results, slices.Sorted(maps.Keys(checks)), api.OK
}

// Fits reports whether values are those of variables, in order, and dimensions of arrays.
func Fits(vars []string, dims []api.Value) bool {
	return slices.EqualFunc(vars, dims, func(v string, d api.Value) bool { return d.Var == v && d.N >= 0 && d.N <= api.MaxDim })
}

// Holds reports whether expressions are at least 0.
func Holds(where []api.Linear, dims []api.Value) bool {
	return !slices.ContainsFunc(where, func(l api.Linear) bool {
		n, e := linear.Eval(l, dims)
		return n < 0 || e != api.OK
	})
}

// Compare compares the element types, and then the dimensions of inputs with their types.
func Compare(want []api.Type, dims []api.Value, inputs []api.Array) api.Errno {
	for i, t := range want {
		if inputs[i].Elem != t.Elem {
			return api.ErrType
		}
	}
	for i, t := range want {
		if n, ok := numbers(t.Shape.Dims, dims); !ok || !slices.Equal(inputs[i].Dims, n) {
			return api.ErrShape
		}
	}
	return api.OK
}

// numbers returns the values of expressions.
func numbers(l []api.Linear, dims []api.Value) ([]int, bool) {
	var out []int
	for _, d := range l {
		n, e := linear.Eval(d, dims)
		if e != api.OK {
			return nil, false
		}
		out = append(out, n)
	}
	return out, true
}

// carryOut returns the result of an instruction, and whether an index was outside.
func carryOut(in api.Instr, dims []api.Value, values []api.Array) (api.Array, bool, api.Errno) {
	frame, ok := numbers(in.Frame, dims)
	out, fits := numbers(in.Type.Shape.Dims, dims)
	sizes, isSized := numbers(in.Sizes, dims)
	if _, e := array.Size(frame); e != api.OK || !ok {
		return api.Array{}, false, api.ErrLimit
	}
	if _, e := array.Size(out); e != api.OK || !fits || !isSized {
		return api.Array{}, false, api.ErrLimit
	}
	var args []api.Array
	for _, a := range in.Args {
		args = append(args, values[a])
	}
	return reduce.Instr(in, frame, sizes, args)
}

// Ground returns the program for given dimensions.
func Ground(f api.Flat, dims []api.Value) (api.Flat, api.Errno) {
	if _, e := Valid(f); e != api.OK {
		return api.Flat{}, e
	}
	if !Fits(f.Vars, dims) {
		return api.Flat{}, api.ErrArg
	}
	if !Holds(f.Where, dims) {
		return api.Flat{}, api.ErrRange
	}
	var binds []api.Bind
	for _, d := range dims {
		binds = append(binds, api.Bind{Kind: api.DimVar, Var: d.Var, Dim: linear.Of(d.N)})
	}
	table := binding.New(binds)
	g := clone.Flat(f)
	g.Vars, g.Where = nil, nil
	var e api.Errno
	if g.Inputs, e = table.Types(g.Inputs); e != api.OK {
		return api.Flat{}, e
	}
	for i := range g.Code {
		in := &g.Code[i]
		var errors [3]api.Errno
		in.Frame, errors[0] = table.Linears(in.Frame)
		in.Sizes, errors[1] = table.Linears(in.Sizes)
		in.Type, errors[2] = table.Type(in.Type)
		if errors != [3]api.Errno{} {
			return api.Flat{}, api.ErrLimit
		}
	}
	return g, api.OK
}

// Work returns what an execution computes, as a polynomial.
func Work(f api.Flat) (api.Poly, api.Errno) {
	if _, e := Valid(f); e != api.OK {
		return nil, e
	}
	values := valueTypes(f)
	var total api.Poly
	for _, in := range f.Code {
		p, e := work(in, values)
		if e == api.OK {
			total, e = poly.Add(total, p)
		}
		if e != api.OK {
			return nil, e
		}
	}
	return total, api.OK
}

// work returns what an instruction computes.
func work(in api.Instr, values []api.Type) (api.Poly, api.Errno) {
	frame, e := poly.Product(in.Frame)
	if e != api.OK {
		return nil, e
	}
	cell, e := poly.Product(in.Type.Shape.Dims[len(in.Frame):])
	if in.Op == "fold" {
		dims := values[in.Args[1]].Shape.Dims
		folded, f := poly.Of(dims[len(dims)-1])
		one, _ := poly.Number(1)
		cell, e = poly.Add(folded, one)
		e = max(e, f)
	}
	if e != api.OK {
		return nil, e
	}
	return poly.Mul(frame, cell)
}

// Print returns the lines of a program.
func Print(f api.Flat) ([]string, api.Errno) {
	if _, e := Valid(f); e != api.OK {
		return nil, e
	}
	var lines []string
	for i, t := range valueTypes(f) {
		s, _ := types.Print(t)
		line := name(i) + ": " + s
		if i >= len(f.Inputs) {
			in := f.Code[i-len(f.Inputs)]
			var args []string
			for j, a := range in.Args {
				args = append(args, name(a)+axesText(in.Axes[j]))
			}
			line += " = " + in.Op + "(" + strings.Join(args, ", ") + ")"
		}
		lines = append(lines, line)
	}
	var results []string
	for _, r := range f.Results {
		results = append(results, name(r))
	}
	return append(lines, "result "+strings.Join(results, ", ")), api.OK
}

func name(value int) string { return "v" + strconv.Itoa(value) }

func axesText(axes []int) string {
	var parts []string
	for _, x := range axes {
		parts = append(parts, strconv.Itoa(x))
	}
	if len(parts) == 0 {
		return ""
	}
	return "@" + strings.Join(parts, ".")
}
