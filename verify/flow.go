package verify

import (
	"slices"

	"framewise/api"
	"framewise/bytecode"
	"framewise/element"
)

// flow finds the ranges of the registers along the instructions of a valid program. It keeps the heads of loops, and the ranges before instructions, if these are wanted.
type flow struct {
	ops    []api.Op
	match  []int
	heads  map[int][]Range
	rules  map[string]rule
	before [][]Range
}

// block returns the ranges after some instructions for those before them, which it may change.
func (f *flow) block(from, to int, s []Range) []Range {
	for i := from; i < to; i++ {
		x := f.ops[i]
		if f.before != nil {
			f.before[i] = slices.Clone(s)
		}
		switch x.Code {
		case bytecode.For:
			s = f.loop(i, s)
			i = f.match[i]
		case bytecode.If:
			s, i = f.branch(i, s)
		default:
			f.step(x, s)
		}
	}
	return s
}

// step changes the ranges by an instruction without a block.
func (f *flow) step(x api.Op, s []Range) {
	switch x.Code {
	case bytecode.Const:
		s[x.A] = Range{x.B, x.B}
	case bytecode.Add:
		s[x.A] = within(sum(x, s), machine)
	case bytecode.Min:
		s[x.A] = Range{min(s[x.B].Lo, s[x.C].Lo), min(s[x.B].Hi, s[x.C].Hi)}
	case bytecode.Max:
		s[x.A] = Range{max(s[x.B].Lo, s[x.C].Lo), max(s[x.B].Hi, s[x.C].Hi)}
	case bytecode.Prim:
		s[x.A] = f.prim(x, s)
	case bytecode.Load:
		s[x.A] = ints
	case bytecode.Miss:
		s[x.A] = Range{}
	case bytecode.Wrap:
		s[x.A] = within(s[x.B], ints)
	}
}

// prim returns the range of a primitive, whose arguments may not fit.
func (f *flow) prim(x api.Op, s []Range) Range {
	args := arguments(x, s)
	if r, ok := f.rules[x.Prim]; ok && fits(x.Prim, args) {
		return r.of(args)
	}
	_, result, _ := element.Types(x.Prim)
	return unknown(result)
}

// branch returns the ranges after an if, and the index of its end.
func (f *flow) branch(i int, s []Range) ([]Range, int) {
	a := f.ops[i].A
	other := f.match[i]
	end := other
	if f.ops[other].Code == bytecode.Else {
		end = f.match[other]
	}
	yes, no := Range{max(s[a].Lo, 0), s[a].Hi}, Range{s[a].Lo, min(s[a].Hi, -1)}
	var after []Range
	part := func(cut Range, from, to int) {
		if cut.isEmpty() {
			return
		}
		own := slices.Clone(s)
		own[a] = cut
		own = f.block(from, to, own)
		if after == nil {
			after = own
		} else {
			join(after, own, hull)
		}
	}
	part(yes, i+1, other)
	part(no, min(other+1, end), end)
	return after, end
}

// loop returns the ranges after a for.
func (f *flow) loop(i int, s []Range) []Range {
	x := f.ops[i]
	v := Range{s[x.B].Lo, s[x.C].Hi - 1}
	if v.isEmpty() {
		return s
	}
	head, isKnown := f.heads[i]
	if !isKnown {
		head = slices.Clone(s)
		f.heads[i] = head
	}
	join(head, s, widened)
	for isChanged := true; isChanged; {
		body := slices.Clone(head)
		body[x.A] = v
		isChanged = join(head, f.block(i+1, f.match[i], body), widened)
	}
	return slices.Clone(head)
}

// join changes the ranges of a list by those of another one, and reports whether one is another one then.
func join(s, t []Range, f func(r, s Range) Range) bool {
	isChanged := false
	for i, r := range t {
		joined := f(s[i], r)
		isChanged = isChanged || joined != s[i]
		s[i] = joined
	}
	return isChanged
}

// widened returns a range that is widened by another one.
func widened(r, s Range) Range {
	both := hull(r, s)
	if both == r {
		return r
	}
	for _, w := range widening {
		if w.contains(both) {
			return w
		}
	}
	return machine
}
