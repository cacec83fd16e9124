// Package clone copies values of package api such that the copies share no memory with them.
package clone

import (
	"slices"

	"framewise/api"
)

// Each copies all elements of a list.
func Each[T any](l []T, copy func(T) T) []T {
	if l == nil {
		return nil
	}
	out := make([]T, len(l))
	for i, v := range l {
		out[i] = copy(v)
	}
	return out
}

// Linear copies an expression.
func Linear(l api.Linear) api.Linear {
	return api.Linear{Const: l.Const, Terms: slices.Clone(l.Terms)}
}

// Linears copies expressions.
func Linears(l []api.Linear) []api.Linear { return Each(l, Linear) }

// Shape copies a shape.
func Shape(s api.Shape) api.Shape { return api.Shape{Row: s.Row, Dims: Linears(s.Dims)} }

// Type copies a type.
func Type(t api.Type) api.Type { return api.Type{Elem: t.Elem, Shape: Shape(t.Shape)} }

// Types copies types.
func Types(l []api.Type) []api.Type { return Each(l, Type) }

// Bind copies a bind.
func Bind(b api.Bind) api.Bind {
	b.Dim, b.Row = Linear(b.Dim), Shape(b.Row)
	return b
}

// Binds copies binds.
func Binds(l []api.Bind) []api.Bind { return Each(l, Bind) }

// Scheme copies a scheme.
func Scheme(s api.Scheme) api.Scheme {
	return api.Scheme{Params: Types(s.Params), Result: Type(s.Result), Where: Linears(s.Where)}
}

// Constraint copies a constraint.
func Constraint(c api.Constraint) api.Constraint {
	c.A, c.B, c.Args, c.Cells = Type(c.A), Type(c.B), Types(c.Args), Types(c.Cells)
	c.Out, c.OutCell, c.L = Type(c.Out), Type(c.OutCell), Linear(c.L)
	return c
}

// Array copies an array.
func Array(a api.Array) api.Array {
	return api.Array{Elem: a.Elem, Dims: slices.Clone(a.Dims), Data: slices.Clone(a.Data)}
}

// Term copies a term.
func Term(t api.Term) api.Term {
	t.Array, t.Sizes, t.Ranks, t.Kids = Array(t.Array), Linears(t.Sizes), slices.Clone(t.Ranks), Each(t.Kids, Term)
	return t
}

// Def copies a definition.
func Def(d api.Def) api.Def {
	d.Params = Each(d.Params, func(p api.Param) api.Param {
		p.Type = Type(p.Type)
		return p
	})
	d.Result, d.Body = Type(d.Result), Term(d.Body)
	return d
}

// Module copies a module.
func Module(m api.Module) api.Module {
	m.Imports, m.Exports, m.Defs = slices.Clone(m.Imports), slices.Clone(m.Exports), Each(m.Defs, Def)
	return m
}

// Program copies a program.
func Program(p api.Program) api.Program {
	return api.Program{Defs: Each(p.Defs, Def), Schemes: Each(p.Schemes, Scheme)}
}

// Cert copies a certificate.
func Cert(c api.Cert) api.Cert {
	return api.Cert{Kind: c.Kind, Mults: slices.Clone(c.Mults), Linear: Linear(c.Linear), Kids: Each(c.Kids, Cert)}
}

// Node copies a node.
func Node(n api.Node) api.Node {
	n.Array, n.Sizes, n.Ranks, n.Type, n.Frame = Array(n.Array), Linears(n.Sizes), slices.Clone(n.Ranks), Type(n.Type), Shape(n.Frame)
	n.Framed, n.Inst, n.Certs, n.Kids = slices.Clone(n.Framed), Binds(n.Inst), Each(n.Certs, Cert), Each(n.Kids, Node)
	return n
}

// Typed copies an elaborated definition.
func Typed(t api.Typed) api.Typed {
	return api.Typed{Name: t.Name, Params: slices.Clone(t.Params), Scheme: Scheme(t.Scheme), Body: Node(t.Body)}
}

// Steps copies scalar code.
func Steps(l []api.Step) []api.Step {
	return Each(l, func(s api.Step) api.Step {
		s.Args = slices.Clone(s.Args)
		return s
	})
}

// Instr copies an instruction.
func Instr(in api.Instr) api.Instr {
	in.Args, in.Frame, in.Axes, in.Sizes = slices.Clone(in.Args), Linears(in.Frame), Each(in.Axes, slices.Clone[[]int]), Linears(in.Sizes)
	in.Array, in.Fun, in.Type = Array(in.Array), Steps(in.Fun), Type(in.Type)
	return in
}

// Flat copies a flat program.
func Flat(f api.Flat) api.Flat {
	return api.Flat{Vars: slices.Clone(f.Vars), Where: Linears(f.Where), Inputs: Types(f.Inputs), Code: Each(f.Code, Instr), Results: slices.Clone(f.Results)}
}

// Pull copies a pull.
func Pull(p api.Pull) api.Pull {
	p.At, p.Fun, p.Kids = Linears(p.At), Steps(p.Fun), Each(p.Kids, Pull)
	return p
}

// Kernel copies a kernel.
func Kernel(k api.Kernel) api.Kernel {
	k.Space, k.Body, k.Fun, k.Index = Linears(k.Space), Pull(k.Body), Steps(k.Fun), Pull(k.Index)
	return k
}

// Kernels copies a fused program.
func Kernels(k api.Kernels) api.Kernels {
	return api.Kernels{Vars: slices.Clone(k.Vars), Where: Linears(k.Where), Inputs: k.Inputs, Values: Types(k.Values), List: Each(k.List, Kernel), Results: slices.Clone(k.Results)}
}

// Nest copies a loop nest.
func Nest(n api.Nest) api.Nest {
	n.Loops = Each(n.Loops, func(l api.Loop) api.Loop {
		l.Lo, l.Hi = Linear(l.Lo), Linears(l.Hi)
		return l
	})
	n.Write.At = Linears(n.Write.At)
	n.Index, n.Body = Pull(n.Index), Pull(n.Body)
	return n
}

// Bytecode copies a program of the machine.
func Bytecode(b api.Bytecode) api.Bytecode {
	b.Ops, b.Inputs, b.Results, b.Types = slices.Clone(b.Ops), slices.Clone(b.Inputs), slices.Clone(b.Results), Each(b.Types, Array)
	return b
}
