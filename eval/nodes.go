package eval

import (
	"maps"
	"slices"

	"framewise/api"
	"framewise/array"
	"framewise/cells"
	"framewise/element"
	"framewise/lifting"
	"framewise/linear"
	"framewise/prims"
	"framewise/reduce"
)

// scope has the arrays of the variables, and the values of the dimensions.
type scope struct {
	vars map[string]api.Array
	dims []api.Value
}

// call calls a definition with arrays.
func (r *runner) call(at int, args []api.Array) api.Array {
	d := &r.program.Defs[at]
	s := scope{map[string]api.Array{}, dimensions(d.Params, args)}
	for i, p := range d.Params {
		s.vars[p.Name] = args[i]
	}
	return r.node(&d.Body, s)
}

// node runs a node.
func (r *runner) node(t *api.Term, s scope) api.Array {
	r.count(1)
	var kids []api.Array
	inner := s
	for i := range t.Kids {
		if t.Kind == api.TermLet && i == 1 {
			inner.vars = maps.Clone(s.vars)
			inner.vars[t.Name] = kids[0]
		}
		kids = append(kids, r.node(&t.Kids[i], inner))
	}
	out := r.result(t, s, kids)
	r.count(len(out.Data))
	return out
}

// result returns the result of a node for those of its kids.
func (r *runner) result(t *api.Term, s scope, kids []api.Array) api.Array {
	switch t.Kind {
	case api.TermVar:
		return s.vars[t.Name]
	case api.TermLit:
		return api.Array{Elem: t.Name, Data: []int{t.Num}}
	case api.TermConst:
		return t.Array
	case api.TermSize:
		n := value(t.Sizes[0], s.dims)
		if !element.Valid(api.Int, n) {
			fail(api.ErrRange)
		}
		return api.Array{Elem: api.Int, Data: []int{n}}
	case api.TermLet:
		return kids[1]
	case api.TermPack:
		return r.instruction("pack", t, nil, kids)
	case api.TermFold:
		return r.lift(kids, []int{0, 1}, func(c []api.Array) api.Array { return r.fold(t.Name, c[0], c[1].Data, c[1].Elem) })
	case api.TermScan:
		return r.lift(kids, []int{1}, func(c []api.Array) api.Array { return r.scan(t.Name, c[0]) })
	}
	return r.apply(t, s, kids)
}

func value(l api.Linear, dims []api.Value) int {
	n, e := linear.Eval(l, dims)
	fail(e)
	return n
}

// apply runs a call for the results of its kids.
func (r *runner) apply(t *api.Term, s scope, kids []api.Array) api.Array {
	if _, ok := prims.Sig(t.Name); ok {
		var sizes []int
		for _, l := range t.Sizes {
			sizes = append(sizes, value(l, s.dims))
		}
		return r.instruction(t.Name, t, sizes, kids)
	}
	at, _ := r.find(t.Name)
	params := r.program.Schemes[at].Params
	if len(t.Sizes) > 0 || t.Num != 0 || len(kids) != len(params) {
		fail(api.ErrArg)
	}
	hasRow := slices.ContainsFunc(params, func(p api.Type) bool { return p.Shape.Row != "" })
	if hasRow && len(t.Ranks) == 0 {
		return r.call(at, kids)
	}
	ranks := t.Ranks
	if !hasRow {
		ranks = nil
		for _, p := range params {
			ranks = append(ranks, len(p.Shape.Dims))
		}
		if len(t.Ranks) > 0 && !slices.Equal(t.Ranks, ranks) {
			fail(api.ErrRank)
		}
	}
	return r.lift(kids, ranks, func(c []api.Array) api.Array { return r.call(at, c) })
}

// find returns the place of a definition.
func (r *runner) find(name string) (int, bool) {
	i := slices.IndexFunc(r.program.Defs, func(d api.Def) bool { return d.Name == name })
	return i, i >= 0
}

// instruction applies a primitive or pack over the frame of its arguments.
func (r *runner) instruction(op string, t *api.Term, sizes []int, kids []api.Array) api.Array {
	ranks, ok := reduce.Ranks(op, len(kids))
	if !ok {
		fail(api.ErrArg)
	}
	if len(t.Ranks) > 0 && !slices.Equal(t.Ranks, ranks) {
		fail(api.ErrRank)
	}
	frame, framed, e := cells.Frame(kids, ranks)
	fail(e)
	in := api.Instr{Op: op, Num: t.Num, Axes: lifting.Axes(framed, len(frame))}
	out, violated, e := reduce.Instr(in, frame, sizes, kids)
	fail(e)
	if violated && r.quiet == 0 {
		r.violated[r.numbers[t]] = true
	}
	return out
}

// lift runs f for the cells of arrays, for each index of their frame, and joins the results.
func (r *runner) lift(args []api.Array, ranks []int, f func([]api.Array) api.Array) api.Array {
	frame, framed, e := cells.Frame(args, ranks)
	fail(e)
	results, e := lifting.Each(frame, framed, ranks, args, f)
	fail(e)
	if len(results) == 0 {
		return r.empty(frame, args, ranks, f)
	}
	out, e := cells.Join(frame, results, results[0])
	fail(e)
	return out
}

// empty returns what lift returns for a frame without indices: cells of zeros say of which type.
func (r *runner) empty(frame []int, args []api.Array, ranks []int, f func([]api.Array) api.Array) api.Array {
	var zeros []api.Array
	for i, a := range args {
		z, e := array.Zeros(a.Elem, a.Dims[len(a.Dims)-ranks[i]:])
		fail(e)
		zeros = append(zeros, z)
	}
	r.quiet++
	sample := f(zeros)
	r.quiet--
	out, e := cells.Join(frame, nil, sample)
	fail(e)
	return out
}

// fold applies a function to a scalar and each of some elements.
func (r *runner) fold(name string, init api.Array, data []int, elem string) api.Array {
	for _, n := range data {
		init = r.two(name, init, api.Array{Elem: elem, Data: []int{n}})
	}
	return init
}

func (r *runner) scan(name string, x api.Array) api.Array {
	out := api.Array{Elem: x.Elem, Dims: x.Dims, Data: slices.Clone(x.Data)}
	for i := 1; i < len(out.Data); i++ {
		out.Data[i] = r.fold(name, api.Array{Elem: x.Elem, Data: out.Data[i-1 : i]}, x.Data[i:i+1], x.Elem).Data[0]
	}
	return out
}

// two applies a function to two scalars.
func (r *runner) two(name string, a, b api.Array) api.Array {
	r.count(1)
	t := api.Term{Kind: api.TermCall, Name: name}
	out := r.apply(&t, scope{}, []api.Array{a, b})
	if len(out.Dims) > 0 || out.Elem != a.Elem {
		fail(api.ErrType)
	}
	return out
}

// dimensions returns what the given types of parameters say of arrays.
func dimensions(params []api.Param, args []api.Array) []api.Value {
	var dims []api.Value
	type pair struct {
		dim api.Linear
		n   int
	}
	var others []pair
	for i, p := range params {
		if !p.Given {
			continue
		}
		a := args[i]
		more := len(a.Dims) - len(p.Type.Shape.Dims)
		switch {
		case (p.Type.Elem == api.Int || p.Type.Elem == api.Bool) && p.Type.Elem != a.Elem:
			fail(api.ErrType)
		case more < 0 || p.Type.Shape.Row == "" && more > 0:
			fail(api.ErrRank)
		}
		for j, d := range p.Type.Shape.Dims {
			n := a.Dims[more+j]
			if len(d.Terms) != 1 || !linear.Equal(d, linear.Var(d.Terms[0].Var)) {
				others = append(others, pair{d, n})
				continue
			}
			v := api.Value{Var: d.Terms[0].Var, N: n}
			at := slices.IndexFunc(dims, func(w api.Value) bool { return w.Var == v.Var })
			if at >= 0 && dims[at].N != n {
				fail(api.ErrShape)
			}
			dims = append(dims, v)
		}
	}
	for _, o := range others {
		if n, e := linear.Eval(o.dim, dims); e == api.OK && n != o.n {
			fail(api.ErrShape)
		}
	}
	return dims
}
