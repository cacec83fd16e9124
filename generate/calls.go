package generate

import (
	"slices"

	"framewise/api"
	"framewise/binding"
	"framewise/linear"
	"framewise/prims"
	"framewise/types"
)

// primitive applies the scheme of a primitive.
func (g *generator) primitive(t api.Term, site int, kids []api.Type) (api.Type, api.Errno) {
	sig, _ := prims.Sig(t.Name)
	if len(kids) != len(sig.Scheme.Params) || len(t.Ranks) > 0 {
		return api.Type{}, api.ErrType
	}
	vars := slices.DeleteFunc(types.Vars(sig.Scheme), func(v api.Bind) bool {
		return v.Kind == api.DimVar && slices.Contains(sig.Sizes, v.Var)
	})
	inst := g.copied(vars)
	s, e := prims.Under(t.Name, t.Sizes, t.Num, inst)
	if e == api.ErrArg {
		e = api.ErrType
	}
	if e != api.OK {
		return api.Type{}, e
	}
	binding.Sort(inst)
	g.system.Sites[site].Inst = inst
	return g.apply(t, site, s, kids), api.OK
}

// definition applies the scheme of a definition, or takes it whole.
func (g *generator) definition(t api.Term, site int, kids []api.Type) (api.Type, api.Errno) {
	general, ok := g.scheme(t.Name)
	if !ok || len(kids) != len(general.Params) || len(t.Sizes) > 0 || t.Num != 0 {
		return api.Type{}, api.ErrType
	}
	vars := types.Vars(general)
	isRow := func(v api.Bind) bool { return v.Kind == api.RowVar }
	isWhole := slices.ContainsFunc(vars, isRow) && len(t.Ranks) == 0
	var inst []api.Bind
	if len(t.Ranks) > 0 {
		rows, e := g.rows(general, slices.DeleteFunc(slices.Clone(vars), func(v api.Bind) bool { return !isRow(v) }), t.Ranks)
		if e != api.OK {
			return api.Type{}, e
		}
		inst, vars = rows, slices.DeleteFunc(vars, isRow)
	}
	inst = append(inst, g.copied(vars)...)
	binding.Sort(inst)
	s, e := types.SubstScheme(general, inst)
	if e != api.OK {
		return api.Type{}, e
	}
	g.system.Sites[site].Inst = inst
	if !isWhole {
		return g.apply(t, site, s, kids), api.OK
	}
	for i, k := range kids {
		g.add(t.Line, same(k, s.Params[i]))
	}
	g.least(t, s)
	return s.Result, api.OK
}

// rows returns the binds of rows to as many fresh dimensions as ranks say.
func (g *generator) rows(s api.Scheme, rows []api.Bind, ranks []int) ([]api.Bind, api.Errno) {
	count := map[string]int{}
	for i, p := range s.Params {
		more := ranks[i] - len(p.Shape.Dims)
		old, ok := count[p.Shape.Row]
		if more < 0 || p.Shape.Row == "" && more > 0 || p.Shape.Row != "" && ok && old != more {
			return nil, api.ErrRank
		}
		count[p.Shape.Row] = more
	}
	for i, r := range rows {
		n, ok := count[r.Var]
		if !ok {
			return nil, api.ErrRank
		}
		for range n {
			rows[i].Row.Dims = append(rows[i].Row.Dims, linear.Var(g.name()))
		}
	}
	return rows, api.OK
}
