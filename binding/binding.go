// Package binding looks up what variables stand for in a table, so that only the binds that are needed are substituted.
package binding

import (
	"cmp"
	"slices"
	"strings"

	"framewise/api"
	"framewise/linear"
	"framewise/shape"
	"framewise/types"
)

// Table has, for each kind, the binds of the variables.
type Table [api.ElemVar + 1]map[string]api.Bind

// New returns the table of valid binds.
func New(l []api.Bind) Table {
	var t Table
	for kind := range t {
		t[kind] = map[string]api.Bind{}
	}
	for _, b := range l {
		t[b.Kind][b.Var] = b
	}
	return t
}

// Linear returns an expression behind substituting.
func (t Table) Linear(l api.Linear) (api.Linear, api.Errno) {
	return linear.Subst(l, t.of(shape.Vars(api.Shape{Dims: []api.Linear{l}})))
}

// Linears returns expressions behind substituting, or the first error.
func (t Table) Linears(l []api.Linear) ([]api.Linear, api.Errno) { return each(l, t.Linear) }

// Shape returns a shape behind substituting.
func (t Table) Shape(s api.Shape) (api.Shape, api.Errno) { return shape.Subst(s, t.of(shape.Vars(s))) }

// Type returns a type behind substituting.
func (t Table) Type(x api.Type) (api.Type, api.Errno) { return types.Subst(x, t.of(types.TypeVars(x))) }

// Types returns types behind substituting, or the first error.
func (t Table) Types(l []api.Type) ([]api.Type, api.Errno) { return each(l, t.Type) }

// of returns the binds of some variables.
func (t Table) of(vars []api.Bind) []api.Bind {
	var l []api.Bind
	for _, v := range vars {
		if b, ok := t[v.Kind][v.Var]; ok {
			l = append(l, b)
		}
	}
	return l
}

func each[T any](l []T, subst func(T) (T, api.Errno)) ([]T, api.Errno) {
	var out []T
	for _, v := range l {
		v, e := subst(v)
		if e != api.OK {
			return nil, e
		}
		out = append(out, v)
	}
	return out, api.OK
}

// Sort sorts binds by Kind, and then by Var.
func Sort(l []api.Bind) {
	slices.SortFunc(l, func(a, b api.Bind) int {
		return cmp.Or(cmp.Compare(a.Kind, b.Kind), strings.Compare(a.Var, b.Var))
	})
}
