package checker

import (
	"slices"

	"framewise/agree"
	"framewise/api"
	"framewise/binding"
	"framewise/linear"
	"framewise/prims"
	"framewise/shape"
	"framewise/types"
)

// check has the earlier definitions, the scheme of the definition and the variables of its types, and the number of the node that is looked at.
type check struct {
	earlier []api.Typed
	scheme  api.Scheme
	vars    [api.ElemVar + 1]map[string]bool
	at      int
}

// node checks a node, and then its kids, with the types of the variables in scope.
func (c *check) node(n api.Node, env map[string]api.Type) api.Errno {
	rules := []struct {
		holds func() bool
		e     api.Errno
	}{
		{func() bool { return c.isClosed(n) }, api.ErrArg},
		{func() bool { return c.isNamed(n, env) }, api.ErrName},
		{func() bool { return c.isTyped(n, env) && (c.at > 0 || types.Equal(n.Type, c.scheme.Result)) }, api.ErrType},
		{func() bool { return c.isGranted(n) }, api.ErrRange},
	}
	for _, r := range rules {
		if !r.holds() {
			return r.e
		}
	}
	c.at++
	for i, k := range n.Kids {
		inner := env
		if n.Kind == api.TermLet && i == 1 {
			inner = map[string]api.Type{}
			for v, t := range env {
				inner[v] = t
			}
			inner[n.Name] = n.Kids[0].Type
		}
		if e := c.node(k, inner); e != api.OK {
			return e
		}
	}
	return api.OK
}

// isClosed reports whether all parts of a node are valid, and have no variables but those of the definition.
func (c *check) isClosed(n api.Node) bool {
	if !types.Valid(n.Type) || !shape.Valid(n.Frame) || !shape.ValidBinds(n.Inst) {
		return false
	}
	if n.Kind < api.TermCall && (!shape.Equal(n.Frame, api.Shape{}) || len(n.Framed) > 0 || len(n.Inst) > 0) {
		return false
	}
	vars := append(types.TypeVars(n.Type), shape.Vars(n.Frame)...)
	for _, b := range n.Inst {
		vars = append(vars, binding.Vars(b)...)
	}
	for _, l := range n.Sizes {
		for _, v := range linear.Vars(l) {
			vars = append(vars, api.Bind{Kind: api.DimVar, Var: v})
		}
	}
	return !slices.ContainsFunc(vars, func(v api.Bind) bool { return !c.vars[v.Kind][v.Var] })
}

func (c *check) isNamed(n api.Node, env map[string]api.Type) bool {
	switch n.Kind {
	case api.TermVar:
		_, ok := env[n.Name]
		return ok
	case api.TermCall, api.TermFold, api.TermScan:
		_, isPrim := prims.Sig(n.Name)
		_, isDef := find(c.earlier, n.Name)
		return isPrim || isDef
	}
	return true
}

func (c *check) isTyped(n api.Node, env map[string]api.Type) bool {
	want := api.Type{}
	switch n.Kind {
	case api.TermVar:
		want = env[n.Name]
	case api.TermLit:
		want.Elem = n.Name
	case api.TermConst:
		want.Elem = n.Array.Elem
		for _, d := range n.Array.Dims {
			want.Shape.Dims = append(want.Shape.Dims, linear.Of(d))
		}
	case api.TermSize:
		want.Elem = api.Int
	case api.TermLet:
		want = n.Kids[1].Type
	default:
		return c.isApplied(n)
	}
	return types.Equal(n.Type, want)
}

// isApplied reports whether the scheme that a node applies is taken whole, or lifted, as it has to be.
func (c *check) isApplied(n api.Node) bool {
	s, whole, e := Applied(c.earlier, n)
	if e != api.OK {
		return false
	}
	var kids []api.Type
	for _, k := range n.Kids {
		kids = append(kids, k.Type)
	}
	if whole {
		return slices.EqualFunc(kids, s.Params, types.Equal) && types.Equal(n.Type, s.Result) && shape.Equal(n.Frame, api.Shape{}) && len(n.Framed) == 0
	}
	a := api.Constraint{Kind: api.ConsAgree, Args: kids, Cells: s.Params, Out: n.Type, OutCell: s.Result}
	return agree.Holds(a, n.Frame, n.Framed)
}

func (c *check) isGranted(n api.Node) bool {
	s, _, _ := Applied(c.earlier, n)
	return !slices.ContainsFunc(s.Where, func(l api.Linear) bool { return !Granted(l, c.scheme) })
}
