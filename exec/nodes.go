package exec

import (
	"slices"

	"framewise/api"
	"framewise/array"
	"framewise/binding"
	"framewise/cells"
	"framewise/clone"
	"framewise/element"
	"framewise/lifting"
	"framewise/linear"
	"framewise/reduce"
	"framewise/shape"
	"framewise/types"
)

// scope has what the variables of the scheme stand for, and the arrays of the variables.
type scope struct {
	table binding.Table
	vars  map[string]api.Array
}

// call runs a definition, whose variables stand for closed binds, with arrays.
func (r *runner) call(t api.Typed, binds []api.Bind, args []api.Array) api.Array {
	s := scope{binding.New(binds), map[string]api.Array{}}
	for _, v := range types.Vars(t.Scheme) {
		if _, ok := s.table[v.Kind][v.Var]; !ok {
			fail(api.ErrAmbiguous)
		}
	}
	if len(args) != len(t.Params) {
		fail(api.ErrArg)
	}
	for i, v := range t.Params {
		s.vars[v] = args[i]
	}
	var node func(n api.Node, s scope) api.Array
	node = func(n api.Node, s scope) api.Array {
		r.count(1)
		var kids []api.Array
		inner := s
		for i, k := range n.Kids {
			if n.Kind == api.TermLet && i == 1 {
				inner.vars = map[string]api.Array{}
				for v, a := range s.vars {
					inner.vars[v] = a
				}
				inner.vars[n.Name] = kids[0]
			}
			kids = append(kids, node(k, inner))
		}
		out := r.result(n, s, kids)
		r.count(len(out.Data))
		elem, dims := s.closedType(n.Type)
		checkType(out, elem, dims)
		return out
	}
	return node(t.Body, s)
}

// checkType checks the type of a result.
func checkType(a api.Array, elem string, dims []int) {
	if a.Elem != elem {
		fail(api.ErrType)
	}
	if !slices.Equal(a.Dims, dims) {
		fail(api.ErrShape)
	}
}

// closedShape returns the dimensions of a shape without variables.
func (s scope) closedShape(x api.Shape) []int {
	x, e := s.table.Shape(x)
	fail(e)
	var dims []int
	for _, d := range x.Dims {
		n, ok := linear.Const(d)
		if !ok {
			fail(api.ErrAmbiguous)
		}
		dims = append(dims, n)
	}
	if x.Row != "" {
		fail(api.ErrAmbiguous)
	}
	for _, n := range dims {
		if n < 0 || n > api.MaxDim {
			fail(api.ErrRange)
		}
	}
	return dims
}

// closedType returns the element type and the dimensions of a type without variables.
func (s scope) closedType(t api.Type) (string, []int) {
	dims := s.closedShape(t.Shape)
	if b, ok := s.table[api.ElemVar][t.Elem]; ok {
		t.Elem = b.Elem
	}
	if shape.ElemVar(t.Elem) {
		fail(api.ErrAmbiguous)
	}
	return t.Elem, dims
}

// closed returns the value of an expression without variables.
func (s scope) closed(l api.Linear) int {
	l, e := s.table.Linear(l)
	fail(e)
	n, ok := linear.Const(l)
	if !ok {
		fail(api.ErrAmbiguous)
	}
	return n
}

// closedInst returns binds to what has no variables.
func (s scope) closedInst(l []api.Bind) []api.Bind {
	var out []api.Bind
	for _, b := range l {
		switch b.Kind {
		case api.DimVar:
			b.Dim = linear.Of(s.closed(b.Dim))
		case api.RowVar:
			var row api.Shape
			for _, n := range s.closedShape(b.Row) {
				row.Dims = append(row.Dims, linear.Of(n))
			}
			b.Row = row
		case api.ElemVar:
			b.Elem, _ = s.closedType(api.Type{Elem: b.Elem})
		}
		out = append(out, b)
	}
	return out
}

// result returns the result of a node for those of its kids.
func (r *runner) result(n api.Node, s scope, kids []api.Array) api.Array {
	switch n.Kind {
	case api.TermVar:
		return s.vars[n.Name]
	case api.TermLit:
		return api.Array{Elem: n.Name, Data: []int{n.Num}}
	case api.TermConst:
		return n.Array
	case api.TermSize:
		v := s.closed(n.Sizes[0])
		if !element.Valid(api.Int, v) {
			fail(api.ErrRange)
		}
		return api.Array{Elem: api.Int, Data: []int{v}}
	case api.TermLet:
		return kids[1]
	case api.TermPack:
		return r.instruction("pack", n, s, kids)
	case api.TermFold:
		return r.loop(n, s, kids, []int{0, 1})
	case api.TermScan:
		return r.loop(n, s, kids, []int{1})
	}
	if isPrimitive(n.Name) {
		return r.instruction(n.Name, n, s, kids)
	}
	inst := s.closedInst(n.Inst)
	return r.lift(n, s, kids, nil, func(at []api.Array) api.Array { return r.call(r.list[n.Name], inst, at) })
}

// framed says which kids of a node have its frame.
func framed(n api.Node) []bool {
	if len(n.Framed) == 0 {
		return make([]bool, len(n.Kids))
	}
	return n.Framed
}

// instruction applies a primitive or pack over the frame of a node.
func (r *runner) instruction(op string, n api.Node, s scope, kids []api.Array) api.Array {
	frame := s.closedShape(n.Frame)
	var sizes []int
	for _, l := range n.Sizes {
		sizes = append(sizes, s.closed(l))
	}
	in := api.Instr{Op: op, Num: n.Num, Axes: lifting.Axes(framed(n), len(frame))}
	out, violated, e := reduce.Instr(in, frame, sizes, kids)
	fail(e)
	if violated && n.Check != 0 {
		r.violated[n.Check] = true
	}
	return out
}

// lift runs f for the cells of arrays, for each index of the frame of a node. Without ranks, cells are what is behind the frame.
func (r *runner) lift(n api.Node, s scope, kids []api.Array, ranks []int, f func([]api.Array) api.Array) api.Array {
	frame := s.closedShape(n.Frame)
	isIn := framed(n)
	if ranks == nil {
		for i, a := range kids {
			rank := len(a.Dims)
			if isIn[i] {
				rank -= len(frame)
			}
			ranks = append(ranks, rank)
		}
	}
	fail(cells.Check(frame, lifting.Axes(isIn, len(frame)), ranks, kids))
	results, e := lifting.Each(frame, isIn, ranks, kids, f)
	fail(e)
	if len(results) == 0 {
		zeros, e := array.Zeros(s.closedType(n.Type))
		fail(e)
		return zeros
	}
	out, e := cells.Join(frame, results, results[0])
	fail(e)
	return out
}

// loop folds or scans the cells of arrays.
func (r *runner) loop(n api.Node, s scope, kids []api.Array, ranks []int) api.Array {
	inst := s.closedInst(n.Inst)
	two := func(a, b api.Array) api.Array {
		r.count(1)
		out := r.apply(n.Name, inst, []api.Array{a, b})
		if len(out.Dims) > 0 || out.Elem != a.Elem {
			fail(api.ErrType)
		}
		return out
	}
	return r.lift(n, s, kids, ranks, func(at []api.Array) api.Array {
		list := at[len(at)-1]
		scalar := func(i int) api.Array { return api.Array{Elem: list.Elem, Data: list.Data[i : i+1]} }
		if n.Kind == api.TermFold {
			out := at[0]
			for i := range list.Data {
				out = two(out, scalar(i))
			}
			return out
		}
		out := clone.Array(list)
		for i := 1; i < len(out.Data); i++ {
			out.Data[i] = two(api.Array{Elem: list.Elem, Data: out.Data[i-1 : i]}, scalar(i)).Data[0]
		}
		return out
	})
}

// apply applies a function to scalars.
func (r *runner) apply(name string, inst []api.Bind, args []api.Array) api.Array {
	if !isPrimitive(name) {
		return r.call(r.list[name], inst, args)
	}
	out, _, e := reduce.Instr(api.Instr{Op: name, Axes: make([][]int, len(args))}, nil, nil, args)
	fail(e)
	return out
}
