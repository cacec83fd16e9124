package checker

import (
	"slices"

	"framewise/api"
	"framewise/binding"
	"framewise/clone"
	"framewise/linear"
	"framewise/prims"
	"framewise/shape"
	"framewise/types"
)

// The variables of the schemes of packs and loops.
const (
	packElem = "A"
	loopDim  = "n"
)

// Applied returns the scheme that a node applies, and whether it is taken whole.
func Applied(earlier []api.Typed, n api.Node) (s api.Scheme, whole bool, e api.Errno) {
	if n.Kind < api.TermCall || n.Kind > api.TermScan || !shape.ValidBinds(n.Inst) {
		return api.Scheme{}, false, api.ErrArg
	}
	ok := false
	if n.Kind == api.TermPack {
		s, ok = pack(n)
	} else {
		_, isPrim := prims.Sig(n.Name)
		d, isDef := find(earlier, n.Name)
		switch {
		case !isPrim && !isDef:
			return api.Scheme{}, false, api.ErrName
		case n.Kind != api.TermCall:
			s, ok = loop(earlier, n)
		case isPrim:
			s, ok = primitive(n)
		default:
			s, ok = definition(d.Scheme, n)
			whole = ok && len(n.Ranks) == 0 && slices.ContainsFunc(types.Vars(d.Scheme), isRow)
		}
	}
	if !ok {
		return api.Scheme{}, false, api.ErrType
	}
	return s, whole, api.OK
}

func isRow(v api.Bind) bool { return v.Kind == api.RowVar }

// binds reports whether an instance has just the binds of some variables, sorted.
func binds(inst, vars []api.Bind) bool {
	if !slices.IsSortedFunc(inst, binding.Compare) || len(inst) != len(vars) {
		return false
	}
	return !slices.ContainsFunc(vars, func(v api.Bind) bool {
		return !slices.ContainsFunc(inst, func(b api.Bind) bool { return b.Kind == v.Kind && b.Var == v.Var })
	})
}

func primitive(n api.Node) (api.Scheme, bool) {
	sig, _ := prims.Sig(n.Name)
	vars := slices.DeleteFunc(types.Vars(sig.Scheme), func(v api.Bind) bool {
		return v.Kind == api.DimVar && slices.Contains(sig.Sizes, v.Var)
	})
	s, e := prims.Under(n.Name, n.Sizes, n.Num, n.Inst)
	return s, e == api.OK && len(n.Ranks) == 0 && binds(n.Inst, vars)
}

func definition(general api.Scheme, n api.Node) (api.Scheme, bool) {
	s, e := types.SubstScheme(general, n.Inst)
	if e != api.OK || len(n.Sizes) > 0 || n.Num != 0 || !binds(n.Inst, types.Vars(general)) {
		return api.Scheme{}, false
	}
	if len(n.Ranks) == 0 {
		return s, true
	}
	if len(n.Ranks) != len(s.Params) {
		return api.Scheme{}, false
	}
	for i, p := range s.Params {
		if rank, ok := shape.Rank(p.Shape); !ok || rank != n.Ranks[i] {
			return api.Scheme{}, false
		}
	}
	return s, true
}

func pack(n api.Node) (api.Scheme, bool) {
	if !binds(n.Inst, []api.Bind{{Kind: api.ElemVar, Var: packElem}}) {
		return api.Scheme{}, false
	}
	cell := api.Type{Elem: n.Inst[0].Elem}
	s := api.Scheme{Result: list(cell.Elem, linear.Of(len(n.Kids)))}
	for range n.Kids {
		s.Params = append(s.Params, cell)
	}
	return s, true
}

// loop returns the scheme that a fold or a scan applies.
func loop(earlier []api.Typed, n api.Node) (api.Scheme, bool) {
	general := api.Scheme{}
	if sig, ok := prims.Sig(n.Name); ok {
		general = sig.Scheme
	} else if d, ok := find(earlier, n.Name); ok {
		general = d.Scheme
	}
	isLength := func(b api.Bind) bool { return b.Kind == api.DimVar && b.Var == loopDim }
	vars := types.Vars(general)
	at := slices.IndexFunc(n.Inst, isLength)
	if at < 0 || slices.ContainsFunc(vars, isLength) || !Scalar(earlier, n.Name) || !binds(n.Inst, append(vars, n.Inst[at])) {
		return api.Scheme{}, false
	}
	s, e := types.SubstScheme(general, slices.Delete(slices.Clone(n.Inst), at, at+1))
	if e != api.OK || len(s.Params) != 2 {
		return api.Scheme{}, false
	}
	length := func() api.Linear { return clone.Linear(n.Inst[at].Dim) }
	p, q := s.Params[0], s.Params[1]
	isLoop := types.Equal(s.Result, p)
	if n.Kind == api.TermFold {
		return api.Scheme{Params: []api.Type{p, list(q.Elem, length())}, Result: p}, isLoop
	}
	return api.Scheme{Params: []api.Type{list(p.Elem, length())}, Result: list(p.Elem, length())}, isLoop && types.Equal(p, q)
}

// list returns the type of lists of a length.
func list(elem string, length api.Linear) api.Type {
	return api.Type{Elem: elem, Shape: api.Shape{Dims: []api.Linear{length}}}
}
