package infer

import (
	"slices"

	"framewise/api"
	"framewise/binding"
	"framewise/generate"
	"framewise/linear"
	"framewise/term"
	"framewise/types"
)

// known has the variables of the parameters and of the result, for each kind.
type known [api.ElemVar + 1]map[string]bool

func variables(s api.Scheme) known {
	k := known{{}, {}, {}, {}}
	for _, v := range types.Vars(s) {
		k[v.Kind][v.Var] = true
	}
	return k
}

// covers reports whether all variables are known.
func (k known) covers(vars []api.Bind) bool {
	return !slices.ContainsFunc(vars, func(v api.Bind) bool { return !k[v.Kind][v.Var] })
}

// describe returns the scheme of a definition, or the line of what is not determined.
func describe(d api.Def, s generate.System, solution api.Solution) (scheme api.Scheme, line int, e api.Errno) {
	table := binding.New(solution.Binds)
	var bare api.Scheme
	if bare.Params, e = table.Types(s.Params); e != api.OK {
		return api.Scheme{}, 0, e
	}
	if bare.Result, e = table.Type(s.Result); e != api.OK {
		return api.Scheme{}, 0, e
	}
	k := variables(bare)
	node, e := undetermined(k, s, table)
	if e != api.OK {
		return api.Scheme{}, 0, e
	}
	if node >= 0 {
		t, _ := term.Nth(d.Body, node)
		return api.Scheme{}, t.Line, api.ErrAmbiguous
	}
	if !k.coversAll(solution.Where) {
		return api.Scheme{}, d.Line, api.ErrAmbiguous
	}
	full := bare
	for _, l := range solution.Where {
		if !Plain(l, bare) {
			full.Where = append(full.Where, l)
		}
	}
	if len(full.Where) > types.MaxWhere {
		return api.Scheme{}, 0, api.ErrLimit
	}
	scheme, e = types.Canonical(full)
	return scheme, 0, e
}

// undetermined returns the first node whose type, or else whose instance, has a variable that is not known; -1 if there is none.
func undetermined(k known, s generate.System, table binding.Table) (int, api.Errno) {
	images, e := table.Types(s.Types)
	if e != api.OK {
		return 0, e
	}
	node := slices.IndexFunc(images, func(t api.Type) bool { return !k.covers(types.TypeVars(t)) })
	for _, site := range s.Sites {
		inst, e := table.Binds(site.Inst)
		if e != api.OK {
			return 0, e
		}
		isOpen := func(b api.Bind) bool { return !k.covers(binding.Vars(b)) }
		if node < 0 && slices.ContainsFunc(inst, isOpen) {
			node = site.Node
		}
	}
	return node, api.OK
}

// coversAll reports whether all variables of conditions are known.
func (k known) coversAll(l []api.Linear) bool {
	return !slices.ContainsFunc(l, func(w api.Linear) bool {
		return slices.ContainsFunc(linear.Vars(w), func(v string) bool { return !k[api.DimVar][v] })
	})
}
