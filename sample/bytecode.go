package sample

import (
	"slices"

	"framewise/api"
	"framewise/bytecode"
	"framewise/element"
)

// The registers and the words of random programs of the machine.
const (
	Registers = 7
	Words     = 12
)

// MachineOp returns an instruction from its operands.
func MachineOp(code int, operands ...int) api.Op {
	n := append(slices.Clone(operands), 0, 0, 0, 0)
	return api.Op{Code: code, A: n[0], B: n[1], C: n[2], D: n[3]}
}

// MachinePrim returns an instruction that applies a primitive.
func MachinePrim(name string, operands ...int) api.Op {
	x := MachineOp(bytecode.Prim, operands...)
	x.Prim = name
	return x
}

// Bytecode returns a random valid program with the inputs [3]int and [2]bool, and the results [4]int and [2]bool. Many can fail.
func Bytecode(d *Dice) api.Bytecode {
	b := api.Bytecode{Regs: Registers, Arena: Words}
	b.Inputs = []api.Place{{Offset: d.N(3), Size: 3}, {Offset: 3 + d.N(3), Size: 2}}
	b.Results = []api.Place{{Offset: d.N(8), Size: 4}, {Offset: d.N(10), Size: 2}}
	b.Types = []api.Array{{Elem: api.Int, Dims: []int{3}}, {Elem: api.Bool, Dims: []int{2}}, {Elem: api.Int, Dims: []int{2, 2}}, {Elem: api.Bool, Dims: []int{2}}}
	b.Ops = block(d, 3)
	return b
}

// block returns instructions that are nested in at most so many levels.
func block(d *Dice, depth int) []api.Op {
	var l []api.Op
	for range 1 + d.N(6) {
		l = append(l, statement(d, depth)...)
	}
	return l
}

// statement returns an instruction, or a few that belong together.
func statement(d *Dice, depth int) []api.Op {
	r := func() int { return d.N(Registers) }
	op := MachineOp
	small := Pick(d, 0, 1, -1, 2, 3, 5, 11, 12, d.N(40)-20, 1<<31-1)
	switch k := d.N(20); {
	case k < 3:
		return []api.Op{op(bytecode.Const, r(), Pick(d, small, small, small, -1<<40))}
	case k < 5:
		return []api.Op{op(bytecode.Add, r(), r(), r(), Pick(d, 1, -1, 2, 0, 3, 1<<20))}
	case k < 6:
		return []api.Op{op(Pick(d, bytecode.Min, bytecode.Max), r(), r(), r())}
	case k < 9:
		return []api.Op{MachinePrimOf(d, Pick(d, element.Ops()...))}
	case k < 11:
		return []api.Op{op(bytecode.Wrap, r(), r())}
	case k < 14:
		// An address that is made to lie within the arena.
		a, m := r(), r()
		l := []api.Op{op(bytecode.Const, m, Words-1), op(bytecode.Min, a, a, m), op(bytecode.Const, m, 0), op(bytecode.Max, a, a, m)}
		if d.N(2) == 0 {
			return append(l, op(bytecode.Load, r(), a))
		}
		return append(l, op(bytecode.Wrap, m, r()), op(bytecode.Store, a, m))
	case k < 15:
		return []api.Op{op(Pick(d, bytecode.Load, bytecode.Store), r(), r())}
	case k < 16:
		return Pick(d, []api.Op{op(bytecode.Check, 1+d.N(4), r())}, []api.Op{op(bytecode.Miss, r())}, []api.Op{op(bytecode.Skip)})
	case depth == 0:
		return nil
	case k < 18:
		a, b, c := r(), r(), r()
		l := []api.Op{op(bytecode.Const, b, d.N(4)), op(bytecode.Const, c, d.N(8)), op(bytecode.For, a, b, c, 1+d.N(3))}
		return append(append(l[d.N(3):], block(d, depth-1)...), op(bytecode.End))
	}
	l := append([]api.Op{op(bytecode.If, r())}, block(d, depth-1)...)
	if d.N(2) == 0 {
		l = append(append(l, op(bytecode.Else)), block(d, depth-1)...)
	}
	return append(l, op(bytecode.End))
}

// MachinePrimOf returns an instruction that applies a primitive to random registers.
func MachinePrimOf(d *Dice, name string) api.Op {
	params, _, _ := element.Types(name)
	regs := []int{d.N(Registers)}
	for range params {
		regs = append(regs, d.N(Registers))
	}
	return MachinePrim(name, regs...)
}

// Machine carries out a program step by step, and looks at the registers ahead of each instruction, if Look is set.
type Machine struct {
	Program  api.Bytecode
	Regs     []int
	Arena    []int
	Stored   []int // the addresses
	Counts   api.Counts
	Violated map[int]bool
	Steps    int
	Most     int // steps
	Look     func(at int, regs []int)
	match    []int
}

// NewMachine returns a machine whose words are given.
func NewMachine(b api.Bytecode, arena []int) *Machine {
	match, ok := bytecode.Match(b.Ops)
	if !ok || len(arena) != b.Arena {
		panic("no program")
	}
	return &Machine{Program: b, Regs: make([]int, b.Regs), Arena: slices.Clone(arena), Violated: map[int]bool{}, Most: 3000, match: match}
}

// Run carries out all instructions; false if one fails, or there are too many steps.
func (m *Machine) Run() bool { return m.run(0, len(m.Program.Ops)) }

func (m *Machine) run(from, to int) bool {
	for i := from; i < to; i++ {
		if m.Steps++; m.Steps > m.Most {
			return false
		}
		x := m.Program.Ops[i]
		if m.Look != nil {
			m.Look(i, m.Regs)
		}
		switch x.Code {
		case bytecode.For:
			lo, hi := m.Regs[x.B], m.Regs[x.C]
			for n := lo; n < hi; n += x.D {
				m.Regs[x.A] = n
				if !m.run(i+1, m.match[i]) {
					return false
				}
			}
			i = m.match[i]
		case bytecode.If:
			other, end := m.match[i], m.match[i]
			if m.Program.Ops[other].Code == bytecode.Else {
				end = m.match[other]
			}
			begin, stop := i+1, other
			if m.Regs[x.A] < 0 {
				begin, stop = min(other+1, end), end
			}
			if !m.run(begin, stop) {
				return false
			}
			i = end
		default:
			if !m.step(x) {
				return false
			}
		}
	}
	return true
}

// step carries out an instruction without a block.
func (m *Machine) step(x api.Op) bool {
	r := m.Regs
	isIn := func(at int) bool { return at >= 0 && at < len(m.Arena) }
	switch x.Code {
	case bytecode.Const:
		r[x.A] = x.B
	case bytecode.Add:
		r[x.A] = r[x.B] + x.D*r[x.C]
		return max(r[x.A], -r[x.A]) <= bytecode.MaxConst
	case bytecode.Min:
		r[x.A] = min(r[x.B], r[x.C])
	case bytecode.Max:
		r[x.A] = max(r[x.B], r[x.C])
	case bytecode.Prim:
		var args []int
		for _, k := range bytecode.Reads(x) {
			args = append(args, r[k])
		}
		n, ok := element.Apply(x.Prim, args)
		m.Counts.Ops++
		r[x.A] = n
		return ok
	case bytecode.Load:
		if !isIn(r[x.B]) {
			return false
		}
		m.Counts.Reads++
		r[x.A] = m.Arena[r[x.B]]
	case bytecode.Store:
		if !isIn(r[x.A]) || element.Wrap(r[x.B]) != r[x.B] {
			return false
		}
		m.Counts.Writes++
		m.Arena[r[x.A]] = r[x.B]
		m.Stored = append(m.Stored, r[x.A])
	case bytecode.Miss:
		m.Counts.Reads++
		r[x.A] = 0
	case bytecode.Skip:
		m.Counts.Writes++
	case bytecode.Check:
		if r[x.B] == 0 {
			m.Violated[x.A] = true
		}
	case bytecode.Wrap:
		r[x.A] = element.Wrap(r[x.B])
	}
	return true
}
