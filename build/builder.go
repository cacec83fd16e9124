package build

import (
	"slices"
	"strings"

	"framewise/api"
	"framewise/clone"
	"framewise/digest"
	"framewise/generate"
	"framewise/infer"
	"framewise/module"
	"framewise/parser"
	"framewise/resolve"
	"framewise/signature"
)

// builder finds the results of a workspace. It has the modules that can be read and are right, and what will be known of those whose types were needed.
type builder struct {
	space    Space
	texts    map[string]string
	modules  map[string]api.Module
	results  map[string]Result
	entries  map[string]Entry
	inferred map[string]bool
}

// built returns a builder that has all results.
func built(s Space) *builder {
	b := &builder{space: s, texts: map[string]string{}, modules: map[string]api.Module{}, results: map[string]Result{}, entries: map[string]Entry{}, inferred: map[string]bool{}}
	for _, t := range s.Texts {
		b.texts[t.Name] = t.Text
		if m, r := read(t); r.Err == api.OK {
			b.modules[t.Name] = m
		} else {
			b.results[t.Name] = r
		}
	}
	var visit func(name string) Result
	visit = func(name string) Result {
		if r, ok := b.results[name]; ok {
			return r
		}
		m := b.modules[name]
		r := Result{Module: name, Err: b.imports(m)}
		if r.Err == api.OK && slices.ContainsFunc(m.Imports, func(i string) bool { return visit(i).Err != api.OK }) {
			r.Err = api.ErrState
		}
		if r.Err == api.OK {
			r = b.module(m)
		}
		b.results[name] = r
		return r
	}
	for _, t := range s.Texts {
		visit(t.Name)
	}
	return b
}

// failed returns a result with an error, and with a line unless it is 0.
func failed(name string, e api.Errno, line int) Result {
	r := Result{Module: name, Err: e}
	if line != 0 {
		r.Lines = []int{line}
	}
	return r
}

// read returns the module of a text, if there is one that is right.
func read(t Text) (api.Module, Result) {
	m, at, e := parser.Parse(t.Text)
	if e != api.OK {
		return api.Module{}, failed(t.Name, e, strings.Count(t.Text[:at], "\n")+1)
	}
	if m.Name != t.Name {
		return api.Module{}, failed(t.Name, api.ErrName, 1)
	}
	line, e := module.Check(m)
	return m, failed(t.Name, e, line)
}

// imports returns ErrNone if an import is missing, and ErrCycle if a module imports itself.
func (b *builder) imports(m api.Module) api.Errno {
	isMissing := func(name string) bool { _, ok := b.texts[name]; return !ok }
	if slices.ContainsFunc(m.Imports, isMissing) {
		return api.ErrNone
	}
	if slices.Contains(b.reached(m), m.Name) {
		return api.ErrCycle
	}
	return api.OK
}

// reached returns the modules that a module imports, directly or over others.
func (b *builder) reached(m api.Module) []string {
	names := slices.Clone(m.Imports)
	found := map[string]bool{}
	for i := 0; i < len(names); i++ {
		if found[names[i]] {
			continue
		}
		found[names[i]] = true
		names = append(names, b.modules[names[i]].Imports...)
	}
	slices.Sort(names)
	return slices.Compact(names)
}

// module returns the result of a module whose imports have no errors.
func (b *builder) module(m api.Module) Result {
	modules := []api.Module{m}
	for _, name := range b.reached(m) {
		modules = append(modules, b.modules[name])
	}
	p, at, e := resolve.Resolve(modules)
	if e != api.OK {
		return failed(m.Name, e, at.Line)
	}
	x := Entry{Text: Text{m.Name, b.texts[m.Name]}, Stamps: b.stamps(m)}
	isIt := func(k Entry) bool { return k.Text == x.Text && slices.Equal(k.Stamps, x.Stamps) }
	if at := slices.IndexFunc(b.space.Known, isIt); at >= 0 {
		x.Result = b.space.Known[at].Result
	} else {
		x.Result = b.infer(m, p)
		b.inferred[m.Name] = true
	}
	b.entries[m.Name] = x
	return x.Result
}

// stamps returns the stamps of the imports of a module.
func (b *builder) stamps(m api.Module) []Stamp {
	var l []Stamp
	for _, name := range slices.Sorted(slices.Values(m.Imports)) {
		l = append(l, Stamp{name, digest.Of([]byte(b.face(name)))})
	}
	return l
}

// exported returns the exported definitions of a module without an error, in ascending order.
func (b *builder) exported(name string) []Named {
	exports := b.modules[name].Exports
	return slices.DeleteFunc(slices.Clone(b.results[name].Defs), func(d Named) bool { return !slices.Contains(exports, d.Name) })
}

// offered returns the interface of a module without an error.
func (b *builder) offered(name string) (signature.Interface, api.Errno) {
	var entries []signature.Entry
	for _, d := range b.exported(name) {
		entries = append(entries, signature.Entry{Name: d.Name, Scheme: d.Scheme})
	}
	return signature.Make(name, entries)
}

// face returns the face of a module without an error.
func (b *builder) face(name string) string {
	i, _ := b.offered(name)
	text, _ := signature.Print(i)
	for _, d := range b.exported(name) {
		if d.Scalar {
			text += "scalar " + d.Name + "\n"
		}
	}
	return text
}

// schemes returns the schemes of definitions with full names, whose modules have no errors.
func (b *builder) schemes(defs []api.Def) []api.Scheme {
	var l []api.Scheme
	for _, d := range defs {
		of, name, _ := resolve.Split(d.Name)
		own := b.results[of].Defs
		var s api.Scheme
		if at := slices.IndexFunc(own, func(x Named) bool { return x.Name == name }); at >= 0 {
			s = own[at].Scheme
		}
		l = append(l, clone.Scheme(s))
	}
	return l
}

// infer returns the result of a module whose definitions, and those of all modules that it needs, are a program.
func (b *builder) infer(m api.Module, p api.Program) Result {
	// Definitions are left in the order of their names, and taken as soon as all of the module that they call are taken.
	left := map[string]api.Def{}
	var names []string
	var q api.Program
	for _, d := range p.Defs {
		if of, name, _ := resolve.Split(d.Name); of == m.Name {
			left[name] = d
			names = append(names, name)
		} else {
			q.Defs = append(q.Defs, d)
		}
	}
	q.Schemes = b.schemes(q.Defs)
	slices.Sort(names)
	isWaiting := func(name string) bool { _, ok := left[name]; return ok }
	for range names {
		at := slices.IndexFunc(names, func(name string) bool {
			return isWaiting(name) && !slices.ContainsFunc(module.Uses(m, name), isWaiting)
		})
		q.Defs = append(q.Defs, left[names[at]])
		delete(left, names[at])
		s, _, lines, e := infer.Infer(q)
		if e != api.OK {
			return Result{Module: m.Name, Err: e, Lines: lines}
		}
		q.Schemes = append(q.Schemes, s)
	}
	r := Result{Module: m.Name}
	own := q.Defs[len(p.Defs)-len(names):]
	for _, name := range names {
		full := m.Name + "." + name
		at := len(p.Defs) - len(names) + slices.IndexFunc(own, func(d api.Def) bool { return d.Name == full })
		r.Defs = append(r.Defs, Named{name, q.Schemes[at], generate.Scalar(q, full)})
	}
	return r
}
