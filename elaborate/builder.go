package elaborate

import (
	"framewise/api"
	"framewise/binding"
	"framewise/generate"
	"framewise/types"
)

// builder makes nodes: it has the types of all nodes in final form, the number of the next one, and the sites by the numbers of their nodes; e is the first error.
type builder struct {
	solution api.Solution
	names    binding.Table
	types    []api.Type
	next     int
	sites    map[int]generate.Site
	frames   map[int]int
	first    binding.Table
	e        api.Errno
}

func newBuilder(s generate.System, solution api.Solution) (*builder, api.Errno) {
	first := binding.New(solution.Binds)
	params, e := first.Types(s.Params)
	if e != api.OK {
		return nil, e
	}
	result, e := first.Type(s.Result)
	if e != api.OK {
		return nil, e
	}
	b := &builder{solution: solution, first: first, sites: map[int]generate.Site{}, frames: map[int]int{}}
	b.names = binding.New(types.Renaming(api.Scheme{Params: params, Result: result}))
	if b.types, e = first.Types(s.Types); e != api.OK {
		return nil, e
	}
	if b.types, e = b.names.Types(b.types); e != api.OK {
		return nil, e
	}
	for _, site := range s.Sites {
		b.sites[site.Node] = site
	}
	for i, c := range s.Cons {
		if c.Kind == api.ConsAgree {
			b.frames[i] = len(b.frames)
		}
	}
	return b, api.OK
}

// note keeps the first error.
func (b *builder) note(e api.Errno) {
	if b.e == api.OK {
		b.e = e
	}
}

// node returns the node for a term.
func (b *builder) node(t api.Term) api.Node {
	n := api.Node{Kind: t.Kind, Line: t.Line, Name: t.Name, Num: t.Num, Array: t.Array, Ranks: t.Ranks}
	number := b.next
	b.next++
	n.Type = b.types[number]
	var e api.Errno
	if n.Sizes, e = b.first.Linears(t.Sizes); e == api.OK {
		n.Sizes, e = b.names.Linears(n.Sizes)
	}
	b.note(e)
	if site, ok := b.sites[number]; ok {
		b.instantiate(&n, site)
	}
	for _, k := range t.Kids {
		n.Kids = append(n.Kids, b.node(k))
	}
	return n
}

// instantiate makes the instance and the frame of a site explicit.
func (b *builder) instantiate(n *api.Node, site generate.Site) {
	var e api.Errno
	if n.Inst, e = b.first.Binds(site.Inst); e == api.OK {
		n.Inst, e = b.names.Binds(n.Inst)
	}
	b.note(e)
	if site.Cons < 0 {
		return
	}
	at := b.frames[site.Cons]
	n.Frame, e = b.names.Shape(b.solution.Frames[at])
	n.Framed = b.solution.Framed[at]
	b.note(e)
}
