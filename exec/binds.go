package exec

import (
	"slices"
	"strings"

	"framewise/api"
	"framewise/array"
	"framewise/binding"
	"framewise/equations"
	"framewise/linear"
	"framewise/shape"
	"framewise/types"
)

// known has what variables stand for, and the equations of dimensions.
type known struct {
	elems  map[string]string
	rows   map[string][]int
	system []api.Linear
}

// Binds returns what the variables of the parameters stand for.
func Binds(s api.Scheme, inputs []api.Array) ([]api.Bind, api.Errno) {
	isWrong := func(a api.Array) bool { return !array.Valid(a) }
	isFresh := func(v api.Bind) bool { return strings.HasPrefix(v.Var, "_") }
	if !types.ValidScheme(s) || slices.ContainsFunc(inputs, isWrong) || len(inputs) != len(s.Params) || slices.ContainsFunc(types.Vars(s), isFresh) {
		return nil, api.ErrArg
	}
	k := known{elems: map[string]string{}, rows: map[string][]int{}}
	for i, p := range s.Params {
		if e := k.compare(p, inputs[i]); e != api.OK {
			return nil, e
		}
	}
	dims, _, _, e := equations.Solve(k.system, 1)
	if e == api.ErrNone {
		e = api.ErrShape
	}
	if e != api.OK {
		return nil, e
	}
	params := types.Vars(api.Scheme{Params: s.Params, Result: api.Type{Elem: api.Int}})
	binds, e := k.binds(params, dims)
	if e != api.OK || len(types.Vars(s)) > len(params) {
		return nil, api.ErrAmbiguous
	}
	for _, l := range s.Where {
		w, e := linear.Subst(l, binds)
		if e == api.OK && w.Const < 0 {
			e = api.ErrRange
		}
		if e != api.OK {
			return nil, e
		}
	}
	return binds, api.OK
}

// compare compares the type of a parameter with its input.
func (k *known) compare(p api.Type, a api.Array) api.Errno {
	if elem, ok := k.elems[p.Elem]; ok && elem != a.Elem || !shape.ElemVar(p.Elem) && p.Elem != a.Elem {
		return api.ErrType
	}
	if shape.ElemVar(p.Elem) {
		k.elems[p.Elem] = a.Elem
	}
	n := len(a.Dims) - len(p.Shape.Dims)
	if n < 0 || p.Shape.Row == "" && n > 0 {
		return api.ErrRank
	}
	if row, ok := k.rows[p.Shape.Row]; ok && !slices.Equal(row, a.Dims[:n]) {
		return api.ErrRank
	}
	k.rows[p.Shape.Row] = a.Dims[:n]
	for i, d := range p.Shape.Dims {
		q, e := linear.Sub(d, linear.Of(a.Dims[n+i]))
		if e != api.OK {
			return e
		}
		k.system = append(k.system, q)
	}
	return api.OK
}

// binds returns the binds of all variables, sorted, if there is just one solution for the dimensions.
func (k *known) binds(vars, dims []api.Bind) ([]api.Bind, api.Errno) {
	table := binding.New(dims)
	for i := range vars {
		v := &vars[i]
		switch v.Kind {
		case api.DimVar:
			v.Dim = table[api.DimVar][v.Var].Dim
			if _, ok := table[api.DimVar][v.Var]; !ok || len(v.Dim.Terms) > 0 {
				return nil, api.ErrAmbiguous
			}
		case api.RowVar:
			for _, n := range k.rows[v.Var] {
				v.Row.Dims = append(v.Row.Dims, linear.Of(n))
			}
		case api.ElemVar:
			v.Elem = k.elems[v.Var]
		}
	}
	binding.Sort(vars)
	return vars, api.OK
}
