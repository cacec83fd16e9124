package rules

import (
	"slices"

	"framewise/api"
	"framewise/linear"
	"framewise/prims"
	"framewise/types"
)

// fullMaker returns the maker of the only argument of an instruction, if this is full.
func (w *rewriter) fullMaker(in api.Instr) (api.Instr, bool) {
	if len(in.Args) != 1 || !isFull(in, 0) {
		return api.Instr{}, false
	}
	m := w.maker(in.Args[0])
	return m, m.Op != ""
}

// sameMaker returns this maker, if it has the same Op and Frame, and its argument is full.
func (w *rewriter) sameMaker(in api.Instr) (api.Instr, bool) {
	m, ok := w.fullMaker(in)
	return m, ok && m.Op == in.Op && isSame(m.Frame, in.Frame) && isFull(m, 0)
}

func (w *rewriter) double() bool {
	in := *w.in()
	switch in.Op {
	case "neg", "not", "reverse", "transpose":
		m, ok := w.sameMaker(in)
		return ok && types.Equal(w.types()[m.Args[0]], in.Type) && w.replace(m.Args[0])
	}
	return false
}

// take and drop take the argument of their maker.
func (w *rewriter) take() bool {
	in := *w.in()
	m, ok := w.sameMaker(in)
	if !ok || in.Op != "take" {
		return false
	}
	in.Args = m.Args
	return w.change(nil, in)
}

func (w *rewriter) drop() bool {
	in := *w.in()
	m, ok := w.sameMaker(in)
	if !ok || in.Op != "drop" {
		return false
	}
	size, e := linear.Add(in.Sizes[0], m.Sizes[0])
	in.Args, in.Sizes = m.Args, []api.Linear{size}
	return e == api.OK && w.change(nil, in)
}

func (w *rewriter) whole() bool {
	in := *w.in()
	if in.Op != "take" && in.Op != "drop" || !isFull(in, 0) {
		return false
	}
	size := linear.Of(0)
	if in.Op == "take" {
		dims := w.types()[in.Args[0]].Shape.Dims
		size = dims[len(dims)-1]
	}
	return linear.Equal(in.Sizes[0], size) && w.replace(in.Args[0])
}

func (w *rewriter) through() bool {
	in := *w.in()
	switch in.Op {
	case "reverse", "take", "drop", "transpose", "diagonal", "chunk":
	default:
		return false
	}
	m, ok := w.fullMaker(in)
	sig, isPrim := prims.Sig(m.Op)
	if !ok || !isPrim || !sig.Scalar {
		return false
	}
	by := api.Instr{Op: m.Op, Frame: in.Type.Shape.Dims}
	var inserted []api.Instr
	insert := func(arg int) int {
		copied := in
		copied.Args = []int{arg}
		inserted = append(inserted, copied)
		return w.value() + len(inserted) - 1
	}
	for i, a := range m.Args {
		switch {
		case isFull(m, i):
			by.Args, by.Axes = append(by.Args, insert(a)), append(by.Axes, places(len(by.Frame)))
		case isFree(m, i):
			by.Args, by.Axes = append(by.Args, a), append(by.Axes, nil)
		default:
			return false
		}
	}
	return len(inserted) > 0 && w.change(inserted, by)
}

func (w *rewriter) fill() bool {
	in := *w.in()
	sig, isPrim := prims.Sig(in.Op)
	last := len(in.Frame) - 1
	if !isPrim || !sig.Scalar || last < 0 {
		return false
	}
	inner := api.Instr{Op: in.Op, Frame: in.Frame[:last], Args: slices.Clone(in.Args)}
	isAny := false
	for i, axes := range in.Axes {
		if slices.Contains(axes, last) {
			m := w.maker(in.Args[i])
			if m.Op != "fill" {
				return false
			}
			isAny = true
			inner.Args[i] = m.Args[0]
			var own []int
			for _, x := range m.Axes[0] {
				own = append(own, axes[x])
			}
			axes = own
		}
		inner.Axes = append(inner.Axes, axes)
	}
	by := api.Instr{Op: "fill", Frame: in.Frame[:last], Args: []int{w.value()}, Axes: [][]int{places(last)}, Sizes: in.Frame[last:]}
	return isAny && w.change([]api.Instr{inner}, by)
}
