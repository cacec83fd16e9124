package generate

import (
	"slices"
	"strconv"

	"framewise/api"
	"framewise/binding"
	"framewise/fresh"
	"framewise/linear"
	"framewise/prims"
	"framewise/types"
)

// Fresh element variables begin with a letter, and a number from firstElem on. The others are names of the schemes of packs and loops.
const (
	freshElem = "E"
	firstElem = 1000000
	packElem  = "A"
	loopDim   = "n"
)

// generator makes the system of a definition of a program; wrong is the line of the node with an error.
type generator struct {
	program api.Program
	next    int
	system  System
	wrong   int
}

// number returns the next number of a fresh variable.
func (g *generator) number() int {
	g.next++
	return g.next - 1
}

func (g *generator) name() string { return fresh.Name(g.number()) }

func (g *generator) elem() string { return freshElem + strconv.Itoa(firstElem+g.number()) }

// copied returns binds of variables to fresh ones.
func (g *generator) copied(vars []api.Bind) []api.Bind {
	var l []api.Bind
	for _, v := range vars {
		switch v.Kind {
		case api.DimVar:
			v.Dim = linear.Var(g.name())
		case api.RowVar:
			v.Row = api.Shape{Row: g.name()}
		case api.ElemVar:
			v.Elem = g.elem()
		}
		l = append(l, v)
	}
	return l
}

// add adds constraints on a line.
func (g *generator) add(line int, l ...api.Constraint) {
	for _, c := range l {
		c.Line = max(line, 1)
		g.system.Cons = append(g.system.Cons, c)
	}
}

func same(a, b api.Type) api.Constraint { return api.Constraint{Kind: api.ConsSame, A: a, B: b} }

// body generates the constraints of all nodes of a term, and returns its type.
func (g *generator) body(t api.Term, env map[string]api.Type) (result api.Type, line int, e api.Errno) {
	var visit func(t api.Term, env map[string]api.Type) (api.Type, api.Errno)
	visit = func(t api.Term, env map[string]api.Type) (api.Type, api.Errno) {
		number := len(g.system.Types)
		g.system.Types = append(g.system.Types, api.Type{})
		site := len(g.system.Sites)
		if isSite(t) {
			g.system.Sites = append(g.system.Sites, Site{Node: number, Cons: -1})
		}
		var kids []api.Type
		inner := env
		for i, k := range t.Kids {
			if t.Kind == api.TermLet && i == 1 {
				inner = with(env, t.Name, kids[0])
			}
			kid, e := visit(k, inner)
			if e != api.OK {
				return api.Type{}, e
			}
			kids = append(kids, kid)
		}
		typ, e := g.node(t, site, kids, env)
		if e != api.OK {
			g.wrong = t.Line
			return api.Type{}, e
		}
		g.system.Types[number] = typ
		return typ, api.OK
	}
	result, e = visit(t, env)
	return result, g.wrong, e
}

func isSite(t api.Term) bool {
	return t.Kind == api.TermCall || t.Kind == api.TermPack || t.Kind == api.TermFold || t.Kind == api.TermScan
}

// with returns an environment with a further variable.
func with(env map[string]api.Type, name string, t api.Type) map[string]api.Type {
	inner := map[string]api.Type{name: t}
	for v, old := range env {
		if v != name {
			inner[v] = old
		}
	}
	return inner
}

// node generates the constraints of a node behind those of its kids, and returns its type.
func (g *generator) node(t api.Term, site int, kids []api.Type, env map[string]api.Type) (api.Type, api.Errno) {
	switch t.Kind {
	case api.TermVar:
		return env[t.Name], api.OK
	case api.TermLit:
		return api.Type{Elem: t.Name}, api.OK
	case api.TermConst:
		typ := api.Type{Elem: t.Array.Elem}
		for _, d := range t.Array.Dims {
			typ.Shape.Dims = append(typ.Shape.Dims, linear.Of(d))
		}
		return typ, api.OK
	case api.TermSize:
		return api.Type{Elem: api.Int}, api.OK
	case api.TermLet:
		return kids[1], api.OK
	case api.TermPack:
		return g.pack(t, site, kids), api.OK
	case api.TermFold, api.TermScan:
		return g.loop(t, site, kids)
	}
	if _, ok := prims.Sig(t.Name); ok {
		return g.primitive(t, site, kids)
	}
	return g.definition(t, site, kids)
}

// apply adds the constraints of a scheme that is applied, and returns the type of the node.
func (g *generator) apply(t api.Term, site int, s api.Scheme, kids []api.Type) api.Type {
	typ := api.Type{Elem: s.Result.Elem, Shape: api.Shape{Row: g.name()}}
	g.system.Sites[site].Cons = len(g.system.Cons)
	g.add(t.Line, api.Constraint{Kind: api.ConsAgree, Args: kids, Cells: s.Params, Out: typ, OutCell: s.Result})
	g.least(t, s)
	return typ
}

func (g *generator) least(t api.Term, s api.Scheme) {
	for _, l := range s.Where {
		g.add(t.Line, api.Constraint{Kind: api.ConsLeast, L: l})
	}
}

func (g *generator) pack(t api.Term, site int, kids []api.Type) api.Type {
	inst := g.copied([]api.Bind{{Kind: api.ElemVar, Var: packElem}})
	g.system.Sites[site].Inst = inst
	cell := api.Type{Elem: inst[0].Elem}
	result := api.Type{Elem: cell.Elem, Shape: api.Shape{Dims: []api.Linear{linear.Of(len(kids))}}}
	return g.apply(t, site, api.Scheme{Params: slices.Repeat([]api.Type{cell}, len(kids)), Result: result}, kids)
}

// loop applies the scheme of a fold or a scan.
func (g *generator) loop(t api.Term, site int, kids []api.Type) (api.Type, api.Errno) {
	general, ok := g.scheme(t.Name)
	if !ok || !scalar(g.program, t.Name) || len(general.Params) != 2 {
		return api.Type{}, api.ErrType
	}
	inst := g.copied(types.Vars(general))
	f, e := types.SubstScheme(general, inst)
	if e != api.OK {
		return api.Type{}, e
	}
	p, q, r := f.Params[0], f.Params[1], f.Result
	if t.Kind == api.TermScan {
		g.add(t.Line, same(q, p))
	}
	g.add(t.Line, same(r, p))
	length := g.copied([]api.Bind{{Kind: api.DimVar, Var: loopDim}})
	list := func(elem string) api.Type {
		return api.Type{Elem: elem, Shape: api.Shape{Dims: []api.Linear{length[0].Dim}}}
	}
	s := api.Scheme{Params: []api.Type{p, list(q.Elem)}, Result: p}
	if t.Kind == api.TermScan {
		s = api.Scheme{Params: []api.Type{list(p.Elem)}, Result: list(p.Elem)}
	}
	inst = append(inst, length...)
	binding.Sort(inst)
	g.system.Sites[site].Inst = inst
	return g.apply(t, site, s, kids), api.OK
}

// scheme returns the scheme of a primitive or of a definition that has one.
func (g *generator) scheme(name string) (api.Scheme, bool) {
	if sig, ok := prims.Sig(name); ok {
		return sig.Scheme, true
	}
	i := slices.IndexFunc(g.program.Defs[:len(g.program.Schemes)], func(d api.Def) bool { return d.Name == name })
	if i < 0 {
		return api.Scheme{}, false
	}
	return g.program.Schemes[i], true
}
