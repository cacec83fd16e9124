package resolve

import (
	"slices"

	"framewise/api"
	"framewise/clone"
	"framewise/lexer"
	"framewise/linear"
	"framewise/prims"
	"framewise/printer"
	"framewise/term"
)

// resolver has the modules by their names.
type resolver struct{ modules map[string]api.Module }

// define returns a definition of a module with full names, or the line of the first node in which something stands for nothing.
func (r *resolver) define(m api.Module, d api.Def) (full api.Def, line int, ok bool) {
	full = clone.Def(d)
	full.Name = m.Name + "." + d.Name
	at := rename(&full, func(name string) (string, bool) { return r.function(m, name) })
	if at != nil {
		return api.Def{}, at.Line, false
	}
	return full, 0, true
}

// function returns the name of a primitive, or the full name for which a name stands in a module.
func (r *resolver) function(m api.Module, name string) (string, bool) {
	if _, isPrim := prims.Sig(name); isPrim {
		return name, true
	}
	if other, f, ok := Split(name); ok {
		return name, slices.Contains(m.Imports, other) && slices.Contains(r.modules[other].Exports, f)
	}
	return m.Name + "." + name, slices.ContainsFunc(m.Defs, func(d api.Def) bool { return d.Name == name })
}

// rename replaces all names of functions in a definition, and returns the first node in which something stands for nothing.
func rename(d *api.Def, function func(string) (string, bool)) *api.Term {
	known := map[string]int{}
	whole := map[string]bool{}
	for _, p := range d.Params {
		known[p.Name]++
		for _, dim := range p.Type.Shape.Dims {
			if len(dim.Terms) == 1 && linear.Equal(dim, linear.Var(dim.Terms[0].Var)) {
				whole[dim.Terms[0].Var] = true
			}
		}
	}
	var visit func(t *api.Term) *api.Term
	visit = func(t *api.Term) *api.Term {
		ok := true
		switch t.Kind {
		case api.TermVar:
			ok = known[t.Name] > 0
		case api.TermCall, api.TermFold, api.TermScan:
			t.Name, ok = function(t.Name)
		}
		for _, s := range t.Sizes {
			ok = ok && !slices.ContainsFunc(linear.Vars(s), func(v string) bool { return !whole[v] })
		}
		if !ok {
			return t
		}
		for i := range t.Kids {
			isBody := t.Kind == api.TermLet && i == 1
			if isBody {
				known[t.Name]++
			}
			if wrong := visit(&t.Kids[i]); wrong != nil {
				return wrong
			}
			if isBody {
				known[t.Name]--
			}
		}
		return nil
	}
	return visit(&d.Body)
}

// Valid reports whether a program is valid.
func Valid(p api.Program) bool {
	if len(p.Defs) > api.MaxDefs || len(p.Schemes) > len(p.Defs) {
		return false
	}
	earlier := map[string]bool{}
	for _, d := range p.Defs {
		if !lexer.IsFull(d.Name) || earlier[d.Name] || !validDef(d, earlier) {
			return false
		}
		earlier[d.Name] = true
	}
	return true
}

// validDef reports whether a definition of a program is right behind earlier ones.
func validDef(d api.Def, earlier map[string]bool) bool {
	_, d.Name, _ = Split(d.Name)
	if _, e := printer.Def(d); e == api.ErrArg {
		return false
	}
	isPrim := func(name string) bool { _, ok := prims.Sig(name); return ok }
	params := map[string]bool{}
	for _, p := range d.Params {
		if params[p.Name] || isPrim(p.Name) {
			return false
		}
		params[p.Name] = true
	}
	for t := range term.Nodes(d.Body) {
		if t.Kind == api.TermLet && isPrim(t.Name) {
			return false
		}
	}
	d.Body = clone.Term(d.Body)
	return rename(&d, func(name string) (string, bool) { return name, isPrim(name) || earlier[name] }) == nil
}
