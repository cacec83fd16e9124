package sample

import (
	"slices"

	"framewise/api"
	"framewise/bytecode"
	"framewise/element"
)

// The registers and the words of random programs of the machine.
const (
	Registers = 7
	Words     = 12
)

// MachineOp returns an instruction from its operands.
func MachineOp(code int, operands ...int) api.Op {
	n := append(slices.Clone(operands), 0, 0, 0, 0)
	return api.Op{Code: code, A: n[0], B: n[1], C: n[2], D: n[3]}
}

// MachinePrim returns an instruction that applies a primitive.
func MachinePrim(name string, operands ...int) api.Op {
	x := MachineOp(bytecode.Prim, operands...)
	x.Prim = name
	return x
}

// Bytecode returns a random valid program with the inputs [3]int and [2]bool, and the results [4]int and [2]bool. Many can fail.
func Bytecode(d *Dice) api.Bytecode {
	b := api.Bytecode{Regs: Registers, Arena: Words}
	b.Inputs = []api.Place{{Offset: d.N(3), Size: 3}, {Offset: 3 + d.N(3), Size: 2}}
	b.Results = []api.Place{{Offset: d.N(8), Size: 4}, {Offset: d.N(10), Size: 2}}
	b.Types = []api.Array{{Elem: api.Int, Dims: []int{3}}, {Elem: api.Bool, Dims: []int{2}}, {Elem: api.Int, Dims: []int{2, 2}}, {Elem: api.Bool, Dims: []int{2}}}
	b.Ops = block(d, 3)
	return b
}

// block returns instructions that are nested in at most so many levels.
func block(d *Dice, depth int) []api.Op {
	var l []api.Op
	for range 1 + d.N(6) {
		l = append(l, statement(d, depth)...)
	}
	return l
}

// statement returns an instruction, or a few that belong together.
func statement(d *Dice, depth int) []api.Op {
	r := func() int { return d.N(Registers) }
	op := MachineOp
	small := Pick(d, 0, 1, -1, 2, 3, 5, 11, 12, d.N(40)-20, 1<<31-1)
	switch k := d.N(20); {
	case k < 3:
		return []api.Op{op(bytecode.Const, r(), Pick(d, small, small, small, -1<<40))}
	case k < 5:
		return []api.Op{op(bytecode.Add, r(), r(), r(), Pick(d, 1, -1, 2, 0, 3, 1<<20))}
	case k < 6:
		return []api.Op{op(Pick(d, bytecode.Min, bytecode.Max), r(), r(), r())}
	case k < 9:
		return []api.Op{MachinePrimOf(d, Pick(d, element.Ops()...))}
	case k < 11:
		return []api.Op{op(bytecode.Wrap, r(), r())}
	case k < 14:
		// An address that is made to lie within the arena.
		a, m := r(), r()
		l := []api.Op{op(bytecode.Const, m, Words-1), op(bytecode.Min, a, a, m), op(bytecode.Const, m, 0), op(bytecode.Max, a, a, m)}
		if d.N(2) == 0 {
			return append(l, op(bytecode.Load, r(), a))
		}
		return append(l, op(bytecode.Wrap, m, r()), op(bytecode.Store, a, m))
	case k < 15:
		return []api.Op{op(Pick(d, bytecode.Load, bytecode.Store), r(), r())}
	case k < 16:
		return Pick(d, []api.Op{op(bytecode.Check, 1+d.N(4), r())}, []api.Op{op(bytecode.Miss, r())}, []api.Op{op(bytecode.Skip)})
	case depth == 0:
		return nil
	case k < 18:
		a, b, c := r(), r(), r()
		l := []api.Op{op(bytecode.Const, b, d.N(4)), op(bytecode.Const, c, d.N(8)), op(bytecode.For, a, b, c, 1+d.N(3))}
		return append(append(l[d.N(3):], block(d, depth-1)...), op(bytecode.End))
	}
	l := append([]api.Op{op(bytecode.If, r())}, block(d, depth-1)...)
	if d.N(2) == 0 {
		l = append(append(l, op(bytecode.Else)), block(d, depth-1)...)
	}
	return append(l, op(bytecode.End))
}

// MachinePrimOf returns an instruction that applies a primitive to random registers.
func MachinePrimOf(d *Dice, name string) api.Op {
	params, _, _ := element.Types(name)
	regs := []int{d.N(Registers)}
	for range params {
		regs = append(regs, d.N(Registers))
	}
	return MachinePrim(name, regs...)
}
