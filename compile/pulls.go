package compile

import (
	"framewise/api"
	"framewise/array"
	"framewise/bytecode"
	"framewise/element"
)

// value returns a register with the value of a pull, and whether it is a truth value.
func (b *builder) value(p api.Pull) (reg int, isTruth bool) {
	switch p.Op {
	case "const":
		return b.constant(p.Num), p.Num == 0 || p.Num == 1
	case "linear":
		v := b.expression(p.At[0])
		if v.isWithin(ints) {
			return v.reg, false
		}
		to := b.take()
		b.emit(bytecode.Wrap, to, v.reg)
		return to, false
	}
	to := b.take()
	return to, b.into(p, to)
}

// into lets a register have the value of a pull, and reports whether it is a truth value. All other registers that are needed are free afterwards.
func (b *builder) into(p api.Pull, to int) bool {
	defer func(used int) { b.used = used }(b.used)
	if f, ok := b.table[p.Op]; ok {
		return f(p, to)
	}
	regs, truths := b.kids(p)
	return b.apply(p.Op, regs, truths, to)
}

// kids returns registers with the values of the kids, and which are truth values.
func (b *builder) kids(p api.Pull) (regs []int, truths []bool) {
	for _, k := range p.Kids {
		r, isTruth := b.value(k)
		regs, truths = append(regs, r), append(truths, isTruth)
	}
	return regs, truths
}

// apply applies a primitive. An argument for a truth value that may be another number is made one: in a run without errors it is one already.
func (b *builder) apply(op string, regs []int, truths []bool, to int) bool {
	defer func(used int) { b.used = used }(b.used)
	params, result, _ := element.Types(op)
	args := []int{to}
	for i, r := range regs {
		if params[i] == api.Bool && !truths[i] {
			r = b.clamp(variable{r, ints}, span{0, 1}).reg
		}
		args = append(args, r)
	}
	b.emit(bytecode.Prim, args...)
	b.ops[len(b.ops)-1].Prim = op
	return result == api.Bool || op == "toint" || op == "select" && truths[1] && truths[2]
}

// isTruthCode reports whether apply and steps give a truth value for scalar code.
func isTruthCode(code []api.Step, truths []bool) bool {
	truths = append([]bool{}, truths...)
	for _, s := range code {
		_, result, isPrim := element.Types(s.Op)
		switch {
		case !isPrim:
			truths = append(truths, s.Num == 0 || s.Num == 1)
		case s.Op == "select":
			truths = append(truths, truths[s.Args[1]] && truths[s.Args[2]])
		default:
			truths = append(truths, result == api.Bool || s.Op == "toint")
		}
	}
	return truths[len(truths)-1]
}

// steps lets a register have the result of scalar code.
func (b *builder) steps(code []api.Step, regs []int, truths []bool, to int) bool {
	if len(code) == 0 {
		b.move(to, regs[len(regs)-1])
		return truths[len(truths)-1]
	}
	isTruth := false
	for i, s := range code {
		r := to
		if i < len(code)-1 {
			r = b.take()
		}
		if _, _, isPrim := element.Types(s.Op); isPrim {
			var args []int
			var own []bool
			for _, a := range s.Args {
				args, own = append(args, regs[a]), append(own, truths[a])
			}
			isTruth = b.apply(s.Op, args, own, r)
		} else {
			b.emit(bytecode.Const, r, s.Num)
			isTruth = s.Num == 0 || s.Num == 1
		}
		regs, truths = append(regs, r), append(truths, isTruth)
	}
	return isTruth
}

// literal is the operation of a const.
func (b *builder) literal(p api.Pull, to int) bool {
	b.emit(bytecode.Const, to, p.Num)
	return p.Num == 0 || p.Num == 1
}

// linear is the operation of a linear.
func (b *builder) linear(p api.Pull, to int) bool {
	v := b.expression(p.At[0])
	if v.isWithin(ints) {
		b.move(to, v.reg)
	} else {
		b.emit(bytecode.Wrap, to, v.reg)
	}
	return false
}

// code is the operation of a code.
func (b *builder) code(p api.Pull, to int) bool {
	regs, truths := b.kids(p)
	return b.steps(p.Fun, regs, truths, to)
}

// choice is the operation of an if.
func (b *builder) choice(p api.Pull, to int) bool {
	v := b.expression(p.At[0])
	switch {
	case v.lo >= 0:
		return b.into(p.Kids[0], to)
	case v.hi < 0:
		return b.into(p.Kids[1], to)
	}
	b.emit(bytecode.If, v.reg)
	first := b.into(p.Kids[0], to)
	b.emit(bytecode.Else)
	second := b.into(p.Kids[1], to)
	b.emit(bytecode.End)
	return first && second
}

// reduce is the operation of a reduce.
func (b *builder) reduce(p api.Pull, to int) bool {
	isTruth := b.into(p.Kids[0], to)
	name := b.take()
	v := b.expression(p.At[0])
	if v.hi <= 0 {
		return isTruth
	}
	count := b.clamp(v, span{min(v.lo, maxCount), maxCount})
	b.emit(bytecode.For, name, b.constant(0), count.reg, 1)
	b.free(name)
	b.vars[p.Name] = variable{name, span{0, count.hi - 1}}
	k, isKid := b.value(p.Kids[1])
	isTruth = isTruth && isTruthCode(p.Fun, []bool{true, isKid})
	b.steps(p.Fun, []int{to, k}, []bool{isTruth, isKid}, to)
	b.emit(bytecode.End)
	delete(b.vars, p.Name)
	return isTruth
}

// read is the operation of a read.
func (b *builder) read(p api.Pull, to int) bool {
	dims := b.shape(p.Value)
	regs, _ := b.kids(p)
	size, e := array.Size(dims)
	if len(p.At)+len(regs) != len(dims) || size == 0 || e != api.OK {
		b.miss(p, to)
		return true
	}
	if !p.Dynamic {
		b.emit(bytecode.Load, to, b.address(p.Value, p.At))
		return false
	}
	index := variable{regs[0], ints}
	b.emit(bytecode.If, b.inside(index.reg, dims[len(dims)-1]))
	b.emit(bytecode.Load, to, b.address(p.Value, p.At, index))
	b.emit(bytecode.Else)
	b.miss(p, to)
	b.emit(bytecode.End)
	return false
}

// miss reads outside of an array.
func (b *builder) miss(p api.Pull, to int) {
	b.emit(bytecode.Miss, to)
	if p.Dynamic {
		b.violate(p.Check)
	}
}

// violate violates a check, unless it has no number.
func (b *builder) violate(check int) {
	if check != 0 {
		b.emit(bytecode.Check, check, b.constant(0))
	}
}

// inside returns a register whose integer is at least 0 if an index is from 0 to length - 1.
func (b *builder) inside(index, length int) int {
	r := b.take()
	b.emit(bytecode.Add, r, b.constant(length-1), index, -1)
	b.free(r)
	b.emit(bytecode.Min, r, r, index)
	return r
}

// address returns a register with the address of an element of a value that has some, at an index whose last components may be in registers. It lies within the place of the value, whatever the components are.
func (b *builder) address(v int, at []api.Linear, more ...variable) int {
	dims, place := b.shape(v), b.plan.Places[v]
	x := sum{number: place.Offset}
	k := place.Size
	for i, l := range at {
		k /= dims[i]
		b.times(&x, l, k)
	}
	for i, y := range more {
		k /= dims[len(at)+i]
		x.plus(y, k)
	}
	if _, ok := x.reach(); !ok {
		return b.distant(dims, place, at, more)
	}
	return b.clamp(b.add(x), span{place.Offset, place.Offset + place.Size - 1}).reg
}

// distant returns such a register if the machine cannot add up the address: each component is brought within its dimension first.
func (b *builder) distant(dims []int, place api.Place, at []api.Linear, more []variable) int {
	to := b.take()
	b.emit(bytecode.Const, to, place.Offset)
	k := place.Size
	for i, d := range dims {
		k /= d
		var y variable
		if i < len(at) {
			y = b.expression(at[i])
		} else {
			y = more[i-len(at)]
		}
		b.emit(bytecode.Add, to, to, b.clamp(y, span{0, d - 1}).reg, k)
		b.free(to)
	}
	return to
}
