// Package binding looks up what variables stand for in a table, so that only the binds that are needed are substituted.
package binding

import (
	"cmp"
	"slices"
	"strings"

	"framewise/api"
	"framewise/linear"
	"framewise/shape"
	"framewise/types"
)

// Table has, for each kind, the binds of the variables.
type Table [api.ElemVar + 1]map[string]api.Bind

// New returns the table of valid binds.
func New(l []api.Bind) Table {
	var t Table
	for kind := range t {
		t[kind] = map[string]api.Bind{}
	}
	for _, b := range l {
		t[b.Kind][b.Var] = b
	}
	return t
}

// Linear returns an expression behind substituting.
func (t Table) Linear(l api.Linear) (api.Linear, api.Errno) {
	return linear.Subst(l, t.of(shape.Vars(api.Shape{Dims: []api.Linear{l}})))
}

// Linears returns expressions behind substituting, or the first error.
func (t Table) Linears(l []api.Linear) ([]api.Linear, api.Errno) { return each(l, t.Linear) }

// Shape returns a shape behind substituting.
func (t Table) Shape(s api.Shape) (api.Shape, api.Errno) { return shape.Subst(s, t.of(shape.Vars(s))) }

// Type returns a type behind substituting.
func (t Table) Type(x api.Type) (api.Type, api.Errno) { return types.Subst(x, t.of(types.TypeVars(x))) }

// Types returns types behind substituting, or the first error.
func (t Table) Types(l []api.Type) ([]api.Type, api.Errno) { return each(l, t.Type) }

// Bind returns a bind behind substituting in what its variable stands for.
func (t Table) Bind(b api.Bind) (api.Bind, api.Errno) {
	var e api.Errno
	switch b.Kind {
	case api.DimVar:
		b.Dim, e = t.Linear(b.Dim)
	case api.RowVar:
		b.Row, e = t.Shape(b.Row)
	case api.ElemVar:
		if by, ok := t[api.ElemVar][b.Elem]; ok {
			b.Elem = by.Elem
		}
	}
	if e != api.OK {
		return api.Bind{}, e
	}
	return b, api.OK
}

// Binds returns binds behind substituting in what their variables stand for, or the first error.
func (t Table) Binds(l []api.Bind) ([]api.Bind, api.Errno) { return each(l, t.Bind) }

// Vars returns the variables of what the variable of a bind stands for.
func Vars(b api.Bind) []api.Bind {
	elem := b.Elem
	if b.Kind != api.ElemVar {
		elem = api.Int
	}
	s := b.Row
	if b.Kind == api.DimVar {
		s = api.Shape{Dims: []api.Linear{b.Dim}}
	}
	return types.TypeVars(api.Type{Elem: elem, Shape: s})
}

// of returns the binds of some variables.
func (t Table) of(vars []api.Bind) []api.Bind {
	var l []api.Bind
	for _, v := range vars {
		if b, ok := t[v.Kind][v.Var]; ok {
			l = append(l, b)
		}
	}
	return l
}

func each[T any](l []T, subst func(T) (T, api.Errno)) ([]T, api.Errno) {
	var out []T
	for _, v := range l {
		v, e := subst(v)
		if e != api.OK {
			return nil, e
		}
		out = append(out, v)
	}
	return out, api.OK
}

// Compare compares binds by Kind, and then by Var.
func Compare(a, b api.Bind) int {
	return cmp.Or(cmp.Compare(a.Kind, b.Kind), strings.Compare(a.Var, b.Var))
}

// Sort sorts binds by Kind, and then by Var.
func Sort(l []api.Bind) { slices.SortFunc(l, Compare) }
