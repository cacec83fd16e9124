package machine

import (
	"framewise/api"
	"framewise/bytecode"
	"framewise/element"
)

// action carries out an instruction without a block, and reports whether it does not fail.
type action struct {
	run func(r *runner, x api.Op) bool
}

// table returns the actions of all codes.
func table() [bytecode.Skip + 1]action {
	return [...]action{
		bytecode.Const: {func(r *runner, x api.Op) bool { return r.set(x.A, x.B) }},
		bytecode.Add:   {(*runner).add},
		bytecode.Min:   {func(r *runner, x api.Op) bool { return r.set(x.A, min(r.regs[x.B], r.regs[x.C])) }},
		bytecode.Max:   {func(r *runner, x api.Op) bool { return r.set(x.A, max(r.regs[x.B], r.regs[x.C])) }},
		bytecode.Prim:  {(*runner).prim},
		bytecode.Load:  {(*runner).load},
		bytecode.Store: {(*runner).store},
		bytecode.Miss: {func(r *runner, x api.Op) bool {
			r.counts.Reads++
			return r.set(x.A, 0)
		}},
		bytecode.Check: {func(r *runner, x api.Op) bool {
			if r.regs[x.B] == 0 {
				r.violated[x.A] = true
			}
			return true
		}},
		bytecode.Wrap: {func(r *runner, x api.Op) bool { return r.set(x.A, element.Wrap(r.regs[x.B])) }},
		bytecode.Skip: {func(r *runner, x api.Op) bool {
			r.counts.Writes++
			return true
		}},
	}
}

// set changes a register.
func (r *runner) set(reg, n int) bool {
	r.regs[reg] = n
	return true
}

func (r *runner) add(x api.Op) bool {
	n := r.regs[x.B] + x.D*r.regs[x.C]
	return max(n, -n) <= bytecode.MaxConst && r.set(x.A, n)
}

func (r *runner) prim(x api.Op) bool {
	r.counts.Ops++
	var args []int
	for _, reg := range bytecode.Reads(x) {
		args = append(args, r.regs[reg])
	}
	n, ok := element.Apply(x.Prim, args)
	return ok && r.set(x.A, n)
}

// isAddress reports whether a number is the address of a word.
func (r *runner) isAddress(n int) bool { return n >= 0 && n < len(r.arena) }

func (r *runner) load(x api.Op) bool {
	r.counts.Reads++
	at := r.regs[x.B]
	return r.isAddress(at) && r.set(x.A, r.arena[at])
}

func (r *runner) store(x api.Op) bool {
	r.counts.Writes++
	at, n := r.regs[x.A], r.regs[x.B]
	if !r.isAddress(at) || !element.Valid(api.Int, n) {
		return false
	}
	r.arena[at] = n
	r.counts.Peak = max(r.counts.Peak, at+1)
	return true
}
