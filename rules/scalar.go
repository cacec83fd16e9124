package rules

import (
	"slices"

	"framewise/api"
	"framewise/array"
	"framewise/flat"
	"framewise/linear"
	"framewise/prims"
	"framewise/reduce"
)

// isUsed reports whether the value of the instruction is an argument or a result.
func (w *rewriter) isUsed() bool {
	v := w.value()
	return slices.Contains(w.f.Results, v) || slices.ContainsFunc(w.f.Code[w.at+1:], func(in api.Instr) bool { return slices.Contains(in.Args, v) })
}

func (w *rewriter) dead() bool {
	if w.isUsed() || w.in().Check != 0 {
		return false
	}
	w.own()
	w.remove()
	return true
}

func (w *rewriter) common() bool {
	if !flat.EqualInstr(w.f.Code[w.arg], *w.in()) {
		return false
	}
	w.replace(len(w.f.Inputs) + w.arg)
	w.remove()
	return true
}

func (w *rewriter) constant() bool {
	in := *w.in()
	if in.Op == "const" || in.Check != 0 {
		return false
	}
	var args []api.Array
	for _, v := range in.Args {
		a, ok := w.constantOf(v)
		if !ok {
			return false
		}
		args = append(args, a)
	}
	frame, isFixed := numbers(in.Frame)
	sizes, isSized := numbers(in.Sizes)
	dims, isShaped := numbers(in.Type.Shape.Dims)
	if n, e := array.Size(dims); !isFixed || !isSized || !isShaped || n > MaxConst || e != api.OK {
		return false
	}
	out, _, e := reduce.Instr(in, frame, sizes, args)
	return e == api.OK && w.change(nil, api.Instr{Op: "const", Array: out})
}

// numbers returns the numbers that expressions are, if they are constants.
func numbers(l []api.Linear) ([]int, bool) {
	var out []int
	for _, x := range l {
		n, ok := linear.Const(x)
		if !ok {
			return nil, false
		}
		out = append(out, n)
	}
	return out, true
}

func (w *rewriter) neutral() bool {
	in := *w.in()
	z, ok := prims.Neutral(in.Op)
	return ok && w.isAll(in.Args[w.arg], z) && isFull(in, 1-w.arg) && w.replace(in.Args[1-w.arg])
}

func (w *rewriter) absorbing() bool {
	in := *w.in()
	z, ok := prims.Absorbing(in.Op)
	if !ok || !w.isAll(in.Args[w.arg], z) || in.Args[0] == in.Args[1] && slices.Equal(in.Axes[0], in.Axes[1]) {
		return false
	}
	in.Args = []int{in.Args[w.arg], in.Args[w.arg]}
	in.Axes = [][]int{in.Axes[w.arg], in.Axes[w.arg]}
	return w.change(nil, in)
}

func (w *rewriter) idempotent() bool {
	in := *w.in()
	return prims.Idempotent(in.Op) && in.Args[0] == in.Args[1] && isFull(in, 0) && isFull(in, 1) && w.replace(in.Args[0])
}

func (w *rewriter) order() bool {
	in := *w.in()
	if !prims.Commutative(in.Op) || in.Args[0] < in.Args[1] || in.Args[0] == in.Args[1] && slices.Compare(in.Axes[0], in.Axes[1]) <= 0 {
		return false
	}
	in.Args = []int{in.Args[1], in.Args[0]}
	in.Axes = [][]int{in.Axes[1], in.Axes[0]}
	return w.change(nil, in)
}

func (w *rewriter) associate() bool {
	in := *w.in()
	if !prims.Associative(in.Op) || !isFull(in, 0) {
		return false
	}
	m := w.maker(in.Args[0])
	if m.Op != in.Op || !isSame(m.Frame, in.Frame) || !w.isScalar(m.Args[1]) || !w.isScalar(in.Args[1]) {
		return false
	}
	both := api.Instr{Op: in.Op, Args: []int{m.Args[1], in.Args[1]}, Axes: [][]int{nil, nil}}
	in.Args, in.Axes = []int{m.Args[0], w.value()}, [][]int{m.Axes[0], nil}
	return w.change([]api.Instr{both}, in)
}

// isScalar reports whether a value is a constant scalar.
func (w *rewriter) isScalar(v int) bool {
	a, ok := w.constantOf(v)
	return ok && len(a.Dims) == 0
}

func (w *rewriter) choice() bool {
	in := *w.in()
	if in.Op != "select" {
		return false
	}
	for n, arg := range []int{2, 1} {
		if w.isAll(in.Args[0], n) && isFull(in, arg) {
			return w.replace(in.Args[arg])
		}
	}
	return false
}
