package sample

import (
	"slices"
	"strconv"

	"framewise/api"
	"framewise/element"
	"framewise/linear"
	"framewise/types"
)

// variable is a loop variable, and the dimension that it is less than.
type variable struct{ name, dim string }

// writer writes random pulls for the values of a fused program that are computed already.
type writer struct {
	d      *Dice
	values []api.Type
	known  []int
	vars   []variable
}

// Kernels returns a random valid fused program with the variables m and n. A run may have errors.
func Kernels(d *Dice, most int) api.Kernels {
	k := api.Kernels{Vars: []string{"m", "n"}, Inputs: 5}
	lists := []string{"[n]int", "[n, m]int", "int", "[n]bool", "[m]int"}
	for _, s := range lists {
		k.Values = append(k.Values, Type(s))
	}
	w := &writer{d: d, values: k.Values, known: []int{0, 1, 2, 3, 4}}
	for range 1 + d.N(most) {
		t := Type(Pick(d, append(lists, "bool", "[m, n]int", "[n, n, 2]int")...))
		k.Values = append(k.Values, t)
		w.values = k.Values
		k.List = append(k.List, w.kernels(t, len(k.Values)-1)...)
		w.known = append(w.known, len(k.Values)-1)
	}
	k.Results = []int{len(k.Values) - 1, d.N(len(k.Values))}[:1+d.N(2)]
	return k
}

// kernels returns the kernels of a value with a type.
func (w *writer) kernels(t api.Type, v int) []api.Kernel {
	dims := t.Shape.Dims
	isTruth := t.Elem == api.Bool
	isEqual := func(x int) bool { return types.Equal(w.values[x], t) }
	kind := w.d.N(4)
	switch {
	case kind == 0 && len(dims) > 0:
		k := api.Kernel{Kind: api.KernelScan, Value: v, Space: dims, Body: w.body(dims, 2, isTruth), Fun: Prim(Pick(w.d, "add", "max", "sub"))}
		if isTruth {
			k.Fun = Prim(Pick(w.d, "and", "or", "ne"))
		}
		return []api.Kernel{k}
	case kind == 1 && len(dims) > 0:
		front := dims[:len(dims)-1]
		k := api.Kernel{Kind: api.KernelUpdate, Value: v, Space: front, Index: w.body(front, 2, false), Body: w.body(front, 2, isTruth), Check: w.d.N(4)}
		if w.d.N(2) == 0 {
			k.Index = Pick(w.d, Number(0), Read(2, ""))
		}
		if at := slices.IndexFunc(w.known, isEqual); at >= 0 && w.d.N(2) == 0 {
			k.Source = w.known[at]
			return []api.Kernel{k}
		}
		k.Source = v
		return []api.Kernel{{Kind: api.KernelMap, Value: v, Space: dims, Body: w.body(dims, 1, isTruth)}, k}
	}
	return []api.Kernel{{Kind: api.KernelMap, Value: v, Space: dims, Body: w.body(dims, 3, isTruth)}}
}

// body returns a pull for the loop variables of a space.
func (w *writer) body(space []api.Linear, depth int, isTruth bool) api.Pull {
	w.vars = nil
	for k, x := range space {
		w.vars = append(w.vars, variable{"i" + strconv.Itoa(k), linear.Print(x)})
	}
	return w.pull(depth, isTruth)
}

// pull returns a pull of so many levels, which is a truth value or not.
func (w *writer) pull(depth int, isTruth bool) api.Pull {
	d := w.d
	if depth == 0 {
		return w.leaf(isTruth)
	}
	switch d.N(9) {
	case 0:
		return w.leaf(isTruth)
	case 1:
		at := []api.Linear{w.expression()}
		return api.Pull{Op: "if", At: at, Kids: []api.Pull{w.pull(depth-1, isTruth), w.pull(depth-1, isTruth)}}
	case 2, 3:
		return w.reduce(depth, isTruth)
	case 4:
		if isTruth {
			return api.Pull{Op: "code", Fun: Prim(Pick(d, "xor", "eq", "ne")), Kids: []api.Pull{w.pull(depth-1, true), w.pull(depth-1, true)}}
		}
		steps := []api.Step{{Op: "add", Args: []int{0, 1}}, {Op: "const", Num: d.N(9) - 4}, {Op: Pick(d, "mul", "max", "div"), Args: []int{2, 3}}, {Op: "lt", Args: []int{0, 4}}, {Op: "select", Args: []int{5, 0, 4}}}
		return api.Pull{Op: "code", Fun: steps[:1+d.N(5)/2*2], Kids: []api.Pull{w.pull(depth-1, false), w.pull(depth-1, false)}}
	}
	op := Pick(d, "add", "sub", "mul", "min", "max", "neg", "abs", "sign", "div", "mod", "toint", "select")
	if isTruth {
		op = Pick(d, "lt", "ge", "eq", "and", "or", "not", "select")
	}
	params, _, _ := element.Types(op)
	p := api.Pull{Op: op}
	for _, t := range params {
		p.Kids = append(p.Kids, w.pull(depth-1, t == api.Bool || t != api.Int && isTruth))
	}
	return p
}

// reduce returns a reduce.
func (w *writer) reduce(depth int, isTruth bool) api.Pull {
	count := Pick(w.d, "n", "m", "2", "n-1")
	if len(w.vars) > 0 && w.d.N(4) == 0 {
		count = w.vars[0].name
	}
	p := api.Pull{Op: "reduce", Name: "j" + strconv.Itoa(len(w.vars)), At: Linears(count), Fun: Prim(Pick(w.d, "add", "mul", "min", "sub"))}
	if isTruth {
		p.Fun = Prim(Pick(w.d, "and", "or", "eq"))
	}
	first := w.pull(depth-1, isTruth)
	w.vars = append(w.vars, variable{p.Name, count})
	p.Kids = []api.Pull{first, w.pull(depth-1, isTruth)}
	w.vars = w.vars[:len(w.vars)-1]
	return p
}

// leaf returns a pull without operations.
func (w *writer) leaf(isTruth bool) api.Pull {
	d := w.d
	k := d.N(6)
	switch {
	case k == 0 && isTruth:
		return Number(d.N(2))
	case k == 0:
		return Number(Pick(d, d.N(9)-4, 2147483647))
	case k == 1 && !isTruth:
		return api.Pull{Op: "linear", At: []api.Linear{w.expression()}}
	}
	v := Pick(d, w.known...)
	if (w.values[v].Elem == api.Bool) != isTruth {
		v = 0
		if isTruth {
			v = 3
		}
	}
	var at []api.Linear
	for _, x := range w.values[v].Shape.Dims {
		at = append(at, w.component(linear.Print(x)))
	}
	if len(at) > 0 && d.N(3) == 0 {
		kid := w.leaf(false)
		return api.Pull{Op: "read", Value: v, At: at[:len(at)-1], Dynamic: true, Check: d.N(4), Kids: []api.Pull{kid}}
	}
	return api.Pull{Op: "read", Value: v, At: at}
}

// component returns a component of an index, which is mostly less than a dimension.
func (w *writer) component(dim string) api.Linear {
	for _, k := range []int{w.d.N(len(w.vars) + 1), w.d.N(len(w.vars) + 1)} {
		if k < len(w.vars) && w.vars[k].dim == dim {
			return Linear(Pick(w.d, w.vars[k].name, w.vars[k].name, dim+"-1-"+w.vars[k].name))
		}
	}
	if len(w.vars) > 0 && w.d.N(8) == 0 {
		return w.expression()
	}
	return Linear(Pick(w.d, "0", "0", dim+"-1"))
}

// expression returns an expression of the loop variables.
func (w *writer) expression() api.Linear {
	s := Pick(w.d, "0", "1", "-1", "n-2", "n-m", "-2", "1000000")
	for _, v := range w.vars {
		s += Pick(w.d, "", "", "+"+v.name, "-"+v.name, "+2"+v.name, "-1000000"+v.name, "+999999"+v.name)
	}
	return Linear(s)
}
