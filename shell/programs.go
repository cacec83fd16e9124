package shell

import (
	"cmp"
	"slices"
	"strconv"

	"framewise/api"
	"framewise/array"
	"framewise/bounds"
	"framewise/build"
	"framewise/elaborate"
	"framewise/exec"
	"framewise/flat"
	"framewise/image"
	"framewise/inline"
	"framewise/simplify"
)

// bounded returns the bounded program of the workspace.
func (c *console) bounded() ([]api.Typed, api.Errno) {
	p, e := build.Program(c.state.Space)
	if e != api.OK {
		return nil, e
	}
	l, _, e := elaborate.All(p)
	if e != api.OK {
		return nil, e
	}
	return bounds.Bound(l)
}

// instance has what the variables of a definition stand for.
type instance struct {
	ranks []int
	elems []string
	dims  []api.Value
}

// instantiate returns the instance of a definition for inputs.
func instantiate(l []api.Typed, name string, inputs []api.Array) (instance, api.Errno) {
	rows, elems, e := inline.Variables(l, name)
	if e != api.OK {
		return instance{}, e
	}
	at := slices.IndexFunc(l, func(t api.Typed) bool { return t.Name == name })
	binds, e := exec.Binds(l[at].Scheme, inputs)
	if e != api.OK {
		return instance{}, e
	}
	var in instance
	find := func(kind int, v string) api.Bind {
		at := slices.IndexFunc(binds, func(b api.Bind) bool { return b.Kind == kind && b.Var == v })
		return binds[at]
	}
	for _, r := range rows {
		dims := find(api.RowVar, r).Row.Dims
		in.ranks = append(in.ranks, len(dims))
		for k, d := range dims {
			in.dims = append(in.dims, api.Value{Var: r + "d" + strconv.Itoa(k+1), N: d.Const})
		}
	}
	for _, v := range elems {
		in.elems = append(in.elems, find(api.ElemVar, v).Elem)
	}
	for _, b := range binds {
		if b.Kind == api.DimVar {
			in.dims = append(in.dims, api.Value{Var: b.Var, N: b.Dim.Const})
		}
	}
	slices.SortFunc(in.dims, func(a, b api.Value) int { return cmp.Compare(a.Var, b.Var) })
	return in, api.OK
}

// applied is a definition of the bounded program with inputs, and its instance.
type applied struct {
	list   []api.Typed
	name   string
	inputs []api.Array
	instance
}

// apply returns what is said for a command that needs an instance.
func (c *console) apply(w words) (applied, api.Errno) {
	name, inputs, ok := w.application()
	if !ok {
		return applied{}, api.ErrSyntax
	}
	l, e := c.bounded()
	if e != api.OK {
		return applied{}, e
	}
	in, e := instantiate(l, name, inputs)
	return applied{l, name, inputs, in}, e
}

func (c *console) flat(w words) api.Errno {
	a, e := c.apply(w)
	if e != api.OK {
		return e
	}
	f, e := inline.Flatten(a.list, a.name, a.ranks, a.elems)
	if e != api.OK {
		return e
	}
	f, proof, e := simplify.Run(f)
	if e != api.OK {
		return e
	}
	lines, e := flat.Print(f)
	if e == api.OK {
		c.print("steps ", strconv.Itoa(len(proof)))
		c.out = append(c.out, lines...)
	}
	return e
}

// outcome prints the results of a run, and the violated checks.
func (c *console) outcome(results []api.Array, violated []int) api.Errno {
	for _, a := range results {
		text, e := array.Print(a)
		if e != api.OK {
			return e
		}
		c.print(text)
	}
	if len(violated) > 0 {
		c.print("checks", numbers(violated))
	}
	return api.OK
}

func (c *console) run(w words) api.Errno {
	name, inputs, ok := w.application()
	if !ok {
		return api.ErrSyntax
	}
	l, e := c.bounded()
	if e != api.OK {
		return e
	}
	out, violated, e := exec.Run(l, name, inputs)
	if e != api.OK {
		return e
	}
	return c.outcome([]api.Array{out}, violated)
}

// find returns the place of an image, or the one at which it would be.
func (c *console) find(name string) (at int, ok bool) {
	return slices.BinarySearchFunc(c.state.Images, name, func(i image.Image, name string) int { return cmp.Compare(i.Name, name) })
}

func (c *console) compile(w words) api.Errno {
	a, e := c.apply(w)
	if e != api.OK {
		return e
	}
	i, _, e := image.Make(a.list, a.name, a.ranks, a.elems, a.dims)
	if e != api.OK {
		return e
	}
	at, ok := c.find(i.Name)
	if !ok {
		c.state.Images = slices.Insert(c.state.Images, at, image.Image{})
	}
	c.state.Images[at] = i
	n := i.Counts
	c.print("reads ", strconv.Itoa(n.Reads), " writes ", strconv.Itoa(n.Writes), " ops ", strconv.Itoa(n.Ops), " peak ", strconv.Itoa(n.Peak), " proof ", strconv.Itoa(i.Proof))
	return api.OK
}

func (c *console) call(w words) api.Errno {
	name, inputs, ok := w.application()
	if !ok {
		return api.ErrSyntax
	}
	at, ok := c.find(name)
	if !ok {
		return api.ErrNone
	}
	results, violated, e := image.Run(c.state.Images[at], inputs)
	if e != api.OK {
		return e
	}
	return c.outcome(results, violated)
}

func (c *console) forget(w words) api.Errno {
	name, ok := w.full()
	if !ok {
		return api.ErrSyntax
	}
	at, ok := c.find(name)
	if !ok {
		return api.ErrNone
	}
	c.state.Images = slices.Delete(c.state.Images, at, at+1)
	c.print(done)
	return api.OK
}

func (c *console) images(w words) api.Errno {
	if w.isGiven {
		return api.ErrSyntax
	}
	for _, i := range c.state.Images {
		parts := []string{i.Name}
		for _, d := range i.Dims {
			parts = append(parts, " ", d.Var, "=", strconv.Itoa(d.N))
		}
		c.print(parts...)
	}
	return api.OK
}
