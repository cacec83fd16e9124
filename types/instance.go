package types

import (
	"cmp"
	"slices"
	"strings"

	"framewise/api"
	"framewise/clone"
	"framewise/entail"
	"framewise/equations"
	"framewise/linear"
	"framewise/shape"
)

// matching has what is known of the variables of a general scheme, and the pairs of dimensions.
type matching struct {
	elems            map[string]string
	rows             map[string]api.Shape
	general, special []api.Linear
}

// Instance returns the binds by which a scheme is an instance of a general one.
func Instance(general, special api.Scheme) ([]api.Bind, api.Errno) {
	if !ValidScheme(general) || !ValidScheme(special) {
		return nil, api.ErrArg
	}
	if len(general.Params) != len(special.Params) {
		return nil, api.ErrNone
	}
	m := matching{elems: map[string]string{}, rows: map[string]api.Shape{}}
	for i, t := range general.Params {
		if e := m.types(t, special.Params[i]); e != api.OK {
			return nil, e
		}
	}
	if e := m.types(general.Result, special.Result); e != api.OK {
		return nil, e
	}
	dims, e := equations.Match(m.general, m.special)
	if e != api.OK && e != api.ErrLimit {
		e = api.ErrShape
	}
	if e != api.OK {
		return nil, e
	}
	binds := m.binds(Vars(general), dims)
	if e := proveAll(general.Where, binds, special); e != api.OK {
		return nil, e
	}
	return binds, api.OK
}

// types compares a general type with a special one.
func (m *matching) types(general, special api.Type) api.Errno {
	if !m.elem(general.Elem, special.Elem) {
		return api.ErrType
	}
	n := len(special.Shape.Dims) - len(general.Shape.Dims)
	if !m.row(general.Shape.Row, special.Shape, n) {
		return api.ErrRank
	}
	m.general = append(m.general, general.Shape.Dims...)
	m.special = append(m.special, special.Shape.Dims[n:]...)
	return api.OK
}

func (m *matching) elem(general, special string) bool {
	if !shape.ElemVar(general) {
		return general == special
	}
	if known, ok := m.elems[general]; ok {
		return known == special
	}
	m.elems[general] = special
	return true
}

// row compares a general row with what a special shape has ahead of its other dimensions: the row and n dimensions.
func (m *matching) row(general string, special api.Shape, n int) bool {
	if general == "" {
		return n == 0 && special.Row == ""
	}
	if n < 0 {
		return false
	}
	front := api.Shape{Row: special.Row, Dims: special.Dims[:n]}
	if known, ok := m.rows[general]; ok {
		return shape.Equal(known, front)
	}
	m.rows[general] = front
	return true
}

// binds returns what all variables stand for, sorted, in new memory.
func (m *matching) binds(vars, dims []api.Bind) []api.Bind {
	for i := range vars {
		b := &vars[i]
		switch b.Kind {
		case api.DimVar:
			if j := slices.IndexFunc(dims, func(d api.Bind) bool { return d.Var == b.Var }); j >= 0 {
				b.Dim = dims[j].Dim
			}
		case api.RowVar:
			b.Row = m.rows[b.Var]
		case api.ElemVar:
			b.Elem = m.elems[b.Var]
		}
		*b = clone.Bind(*b)
	}
	slices.SortFunc(vars, func(a, b api.Bind) int {
		return cmp.Or(cmp.Compare(a.Kind, b.Kind), strings.Compare(a.Var, b.Var))
	})
	return vars
}

// proveAll proves conditions, under binds, from the conditions and dimensions of a scheme.
func proveAll(conditions []api.Linear, binds []api.Bind, from api.Scheme) api.Errno {
	hyps := slices.Clone(from.Where)
	for _, t := range append(slices.Clip(from.Params), from.Result) {
		hyps = append(hyps, t.Shape.Dims...)
	}
	var goals []api.Linear
	for _, l := range conditions {
		goal, e := linear.Subst(l, binds)
		if e != api.OK {
			return e
		}
		goals = append(goals, goal)
	}
	if !entail.All(hyps, goals) {
		return api.ErrRange
	}
	return api.OK
}
