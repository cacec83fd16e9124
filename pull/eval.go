package pull

import (
	"maps"
	"slices"

	"framewise/api"
	"framewise/array"
	"framewise/element"
	"framewise/reduce"
)

// The greatest absolute values of variables and expressions.
const (
	maxVariable   = 1 << 30
	maxExpression = 1 << 40
)

// Eval returns the value of a pull, its counts, and the violated checks.
func Eval(p api.Pull, env []api.Value, arrays []api.Array) (n int, counts api.Counts, violated []int, e api.Errno) {
	values := map[string]int{}
	var vars []string
	for _, v := range env {
		values[v.Var] = v.N
		vars = append(vars, v.Var)
	}
	if len(values) != len(env) || !Valid(p, vars, len(arrays)) || slices.ContainsFunc(Reads(p), func(v int) bool { return !array.Valid(arrays[v]) }) {
		return 0, api.Counts{}, nil, api.ErrArg
	}
	m := NewMeter(values)
	n = m.Eval(p, arrays)
	if m.Err != api.OK {
		return 0, api.Counts{}, nil, m.Err
	}
	return n, m.Counts, slices.Sorted(maps.Keys(m.Violated)), api.OK
}

// Meter evaluates valid pulls for values of variables. It counts, and keeps the first error.
type Meter struct {
	Values   map[string]int
	Counts   api.Counts
	Violated map[int]bool
	Err      api.Errno
	nodes    int
}

// NewMeter returns a meter for values of the variables.
func NewMeter(values map[string]int) *Meter {
	return &Meter{Values: values, Violated: map[int]bool{}}
}

// fail keeps the first error.
func (m *Meter) fail(e api.Errno) int {
	if m.Err == api.OK {
		m.Err = e
	}
	return 0
}

// Eval returns the value of a valid pull, whose arrays are valid; 0 behind an error. Each evaluation has its own limit of nodes.
func (m *Meter) Eval(p api.Pull, arrays []api.Array) int {
	m.nodes = 0
	var eval func(p api.Pull) int
	eval = func(p api.Pull) int {
		if m.nodes++; m.nodes > MaxWork {
			m.fail(api.ErrLimit)
		}
		if m.Err != api.OK {
			return 0
		}
		switch p.Op {
		case "const":
			return p.Num
		case "linear":
			return element.Wrap(m.linear(p.At[0]))
		case "if":
			if n := m.linear(p.At[0]); m.Err != api.OK || n >= 0 {
				return eval(p.Kids[0])
			}
			return eval(p.Kids[1])
		case "reduce":
			return m.reduce(p, eval)
		}
		var kids []int
		for _, k := range p.Kids {
			kids = append(kids, eval(k))
		}
		if m.Err != api.OK {
			return 0
		}
		switch p.Op {
		case "read":
			return m.read(p, kids, arrays[p.Value])
		case "code":
			return m.code(p.Fun, kids)
		}
		return m.apply(p.Op, kids)
	}
	return eval(p)
}

// linear returns the value of an expression.
func (m *Meter) linear(l api.Linear) int {
	n := l.Const
	for _, t := range l.Terms {
		v := m.Values[t.Var]
		if v < -maxVariable || v > maxVariable {
			return m.fail(api.ErrLimit)
		}
		n += t.C * v
	}
	if n < -maxExpression || n > maxExpression {
		return m.fail(api.ErrLimit)
	}
	return n
}

// reduce returns the value of a reduce.
func (m *Meter) reduce(p api.Pull, eval func(api.Pull) int) int {
	n := eval(p.Kids[0])
	count := m.linear(p.At[0])
	for i := 0; i < count && m.Err == api.OK; i++ {
		m.Values[p.Name] = i
		k := eval(p.Kids[1])
		if m.Err == api.OK {
			n = m.code(p.Fun, []int{n, k})
		}
	}
	delete(m.Values, p.Name)
	return n
}

// code returns the result of scalar code.
func (m *Meter) code(code []api.Step, args []int) int {
	for _, s := range code {
		if s.Op != "const" && s.Op != "truth" {
			m.Counts.Ops++
		}
	}
	n, ok := reduce.Carry(code, args)
	if !ok {
		return m.fail(api.ErrType)
	}
	return n
}

// apply returns the value of a primitive.
func (m *Meter) apply(op string, args []int) int {
	m.Counts.Ops++
	n, ok := element.Apply(op, args)
	if !ok {
		return m.fail(api.ErrType)
	}
	return n
}

// read returns an element of an array.
func (m *Meter) read(p api.Pull, kids []int, a api.Array) int {
	m.Counts.Reads++
	var index []int
	for _, l := range p.At {
		index = append(index, m.linear(l))
	}
	index = append(index, kids...)
	if m.Err != api.OK {
		return 0
	}
	if len(index) != len(a.Dims) {
		return m.fail(api.ErrRank)
	}
	offset, isOutside := 0, false
	for i, n := range index {
		isIn := n >= 0 && n < a.Dims[i]
		if !isIn && !(p.Dynamic && i == len(index)-1) {
			return m.fail(api.ErrRange)
		}
		isOutside = isOutside || !isIn
		offset = offset*a.Dims[i] + n
	}
	if !isOutside {
		return a.Data[offset]
	}
	if p.Check != 0 {
		m.Violated[p.Check] = true
	}
	return 0
}
