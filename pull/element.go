package pull

import (
	"slices"
	"strconv"
	"strings"

	"framewise/api"
	"framewise/clone"
	"framewise/element"
	"framewise/flat"
	"framewise/linear"
)

// Element returns the element of a value at its loop variables.
func Element(f api.Flat, v int, made []bool) (api.Pull, api.Errno) {
	if _, e := flat.Valid(f); e != api.OK {
		return api.Pull{}, e
	}
	b := builder{f: f, types: flat.Types(f), made: made, needed: map[int]bool{}}
	switch {
	case len(made) != len(b.types):
		return api.Pull{}, api.ErrArg
	case v < 0 || v >= len(b.types):
		return api.Pull{}, api.ErrRange
	case slices.ContainsFunc(f.Vars, IsLoop):
		return api.Pull{}, api.ErrName
	case !b.isPossible(v):
		return api.Pull{}, api.ErrState
	}
	p := b.element(v, Index(len(b.types[v].Shape.Dims)), 0)
	if b.isOver {
		return api.Pull{}, api.ErrLimit
	}
	return clone.Pull(p), api.OK
}

// Argument returns the element of an argument of an instruction of a valid program, at an index of its own; the names of its variables are those of Element.
func Argument(f api.Flat, v int, made []bool, index []api.Linear) (api.Pull, api.Errno) {
	b := builder{f: f, types: flat.Types(f), made: made, needed: map[int]bool{}}
	if !b.isArray(v) && !b.isPossible(v) {
		return api.Pull{}, api.ErrState
	}
	p := b.value(v, index, 0)
	if b.isOver {
		return api.Pull{}, api.ErrLimit
	}
	return clone.Pull(p), api.OK
}

// Index returns the first loop variables.
func Index(n int) []api.Linear {
	var l []api.Linear
	for k := range n {
		l = append(l, linear.Var(Loop(k)))
	}
	return l
}

// IsLoop reports whether a name is i or j, followed by digits.
func IsLoop(s string) bool {
	return len(s) > 1 && (s[0] == 'i' || s[0] == 'j') && strings.Trim(s[1:], "0123456789") == ""
}

// builder makes the elements of the values of a program. Needed are the values whose elements were found to exist; isOver says that a limit was exceeded.
type builder struct {
	f      api.Flat
	types  []api.Type
	made   []bool
	needed map[int]bool
	nodes  int
	isOver bool
}

// isArray reports whether a value is an input, or made.
func (b *builder) isArray(v int) bool { return v < len(b.f.Inputs) || b.made[v] }

// isPossible reports whether there is an element of a value.
func (b *builder) isPossible(v int) bool {
	if v < len(b.f.Inputs) || b.needed[v] {
		return true
	}
	in := b.f.Code[v-len(b.f.Inputs)]
	if in.Op == "update" || in.Op == "scan" || in.Op == "index" && !b.isArray(in.Args[0]) {
		return false
	}
	b.needed[v] = true
	return !slices.ContainsFunc(in.Args, func(a int) bool { return !b.isArray(a) && !b.isPossible(a) })
}

// node counts a node.
func (b *builder) node(p api.Pull) api.Pull {
	if b.nodes++; b.nodes > MaxNodes {
		b.isOver = true
	}
	return p
}

// checked keeps that an expression exceeds a limit.
func (b *builder) checked(l api.Linear, e api.Errno) api.Linear {
	if e != api.OK {
		b.isOver = true
	}
	return l
}

// value returns the element of a value at an index, which is read if there is an array.
func (b *builder) value(v int, index []api.Linear, depth int) api.Pull {
	if b.isArray(v) {
		return b.node(api.Pull{Op: "read", Value: v, At: index})
	}
	return b.element(v, index, depth)
}

// element returns the element of a value at an index, within so many reduces.
func (b *builder) element(v int, index []api.Linear, depth int) api.Pull {
	if b.isOver {
		return api.Pull{}
	}
	if v < len(b.f.Inputs) {
		return b.node(api.Pull{Op: "read", Value: v, At: index})
	}
	in := b.f.Code[v-len(b.f.Inputs)]
	frame, cell := index[:len(in.Frame)], index[len(in.Frame):]
	own := func(arg int, at ...api.Linear) []api.Linear {
		var l []api.Linear
		for _, x := range in.Axes[arg] {
			l = append(l, frame[x])
		}
		return append(l, at...)
	}
	argument := func(arg int, at ...api.Linear) api.Pull { return b.value(in.Args[arg], own(arg, at...), depth) }
	if _, _, ok := element.Types(in.Op); ok {
		p := b.node(api.Pull{Op: in.Op})
		for i := range in.Args {
			p.Kids = append(p.Kids, argument(i))
		}
		return p
	}
	switch in.Op {
	case "const":
		return b.constant(in.Array, cell, in.Array.Data)
	case "size":
		return b.node(api.Pull{Op: "linear", At: in.Sizes})
	case "iota":
		return b.node(api.Pull{Op: "linear", At: cell})
	case "fill":
		return argument(0)
	case "index":
		p := b.node(api.Pull{Op: "read", Value: in.Args[0], At: own(0), Dynamic: true, Check: in.Check})
		p.Kids = []api.Pull{argument(1)}
		return p
	case "pack":
		args := make([]int, len(in.Args))
		for i := range args {
			args[i] = i
		}
		return choose(b, cell[0], args, func(arg int) api.Pull { return argument(arg) })
	case "append":
		n := b.length(in, 0)
		rest := b.checked(linear.Sub(cell[0], n))
		p := b.node(api.Pull{Op: "if", At: []api.Linear{rest}})
		p.Kids = []api.Pull{argument(1, rest), argument(0, cell[0])}
		return p
	case "fold":
		name := "j" + strconv.Itoa(depth)
		p := b.node(api.Pull{Op: "reduce", Name: name, At: []api.Linear{b.length(in, 1)}, Fun: in.Fun})
		p.Kids = []api.Pull{argument(0), b.value(in.Args[1], own(1, linear.Var(name)), depth+1)}
		return p
	}
	return argument(0, b.moved(in, cell)...)
}

// length returns the dimension of the cell of an argument, which is a list.
func (b *builder) length(in api.Instr, arg int) api.Linear {
	dims := b.types[in.Args[arg]].Shape.Dims
	return dims[len(in.Axes[arg])]
}

// moved returns the index in the cell of the argument, for that in the cell of the result.
func (b *builder) moved(in api.Instr, cell []api.Linear) []api.Linear {
	x := cell[0]
	switch in.Op {
	case "drop":
		return []api.Linear{b.checked(linear.Add(x, in.Sizes[0]))}
	case "reverse":
		last := b.checked(linear.Sub(b.length(in, 0), linear.Of(1)))
		return []api.Linear{b.checked(linear.Sub(last, x))}
	case "transpose":
		return []api.Linear{cell[1], x}
	case "diagonal":
		return []api.Linear{x, x}
	case "windows":
		return []api.Linear{b.checked(linear.Add(x, cell[1]))}
	case "chunk":
		return []api.Linear{b.checked(linear.Add(b.checked(linear.Scale(x, in.Num)), cell[1]))}
	}
	return []api.Linear{x}
}

// constant returns the element of an array at an index of its cell; data are the elements for the components ahead.
func (b *builder) constant(a api.Array, cell []api.Linear, data []int) api.Pull {
	if len(data) == 0 {
		return b.node(api.Pull{Op: "const"})
	}
	at := len(a.Dims) - len(cell)
	if len(cell) == 0 {
		return b.node(api.Pull{Op: "const", Num: data[0]})
	}
	parts := slices.Collect(slices.Chunk(data, len(data)/a.Dims[at]))
	return choose(b, cell[0], parts, func(part []int) api.Pull { return b.constant(a, cell[1:], part) })
}

// choose returns balanced ifs that choose one of some items by an expression: their places from 0 on.
func choose[T any](b *builder, x api.Linear, items []T, build func(T) api.Pull) api.Pull {
	var between func(lo, hi int) api.Pull
	between = func(lo, hi int) api.Pull {
		if hi-lo == 1 || b.isOver {
			return build(items[lo])
		}
		mid := (lo + hi) / 2
		p := b.node(api.Pull{Op: "if", At: []api.Linear{b.checked(linear.Sub(x, linear.Of(mid)))}})
		p.Kids = []api.Pull{between(mid, hi), between(lo, mid)}
		return p
	}
	return between(0, len(items))
}
