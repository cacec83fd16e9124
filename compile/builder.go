package compile

import (
	"slices"

	"framewise/api"
	"framewise/bytecode"
	"framewise/element"
)

// firstConstant is the number of the first register of a constant, as long as it is not known how many others there are.
const firstConstant = 1 << 30

// The limits of what is computed for linear expressions. A reduce that is repeated more often than maxCount has an error of layer 43, and so have values beyond the machine range. If a sum could leave this range on the way, multiples of part are computed apart: highMost and lowMost are what they can be in runs without errors, since names of reduces have a sum of at most maxCount there, and all loop variables are less than 4096. So part * highMost + lowMost is not greater than MaxConst.
const (
	maxFactor = 1 << 20
	maxCount  = 1000000
	part      = 1024
	highMost  = 15 << 26
	lowMost   = 1 << 36
)

// span has the integers from lo to hi.
type span struct{ lo, hi int }

var (
	ints    = span{element.Least, element.Greatest}
	machine = span{-bytecode.MaxConst, bytecode.MaxConst}
)

// isWithin reports whether all integers of a span are in another one.
func (s span) isWithin(t span) bool { return t.lo <= s.lo && s.hi <= t.hi }

// variable is a register whose integers are in a span.
type variable struct {
	reg int
	span
}

// term is a multiple of a variable.
type term struct {
	variable
	factor int
}

// sum is a number and some terms.
type sum struct {
	number int
	terms  []term
}

// builder emits the instructions of kernels. Registers are a stack, of which so many are used, and were at most; constants have registers of their own, as long as there are not too many.
type builder struct {
	ks        api.Kernels
	plan      api.Plan
	dims      []api.Value
	vars      map[string]variable
	values    map[string]int
	table     map[string]func(p api.Pull, to int) bool
	ops       []api.Op
	constants []int
	room      int
	used      int
	most      int
}

func newBuilder(ks api.Kernels, p api.Plan, dims []api.Value, constants int) *builder {
	b := &builder{ks: ks, plan: p, dims: dims, room: constants, vars: map[string]variable{}, values: map[string]int{}}
	for _, d := range dims {
		b.values[d.Var] = d.N
	}
	b.table = map[string]func(p api.Pull, to int) bool{
		"const": b.literal, "linear": b.linear, "read": b.read, "if": b.choice, "reduce": b.reduce, "code": b.code,
	}
	return b
}

// emit adds an instruction.
func (b *builder) emit(code int, operands ...int) {
	n := append(operands, 0, 0, 0, 0)
	b.ops = append(b.ops, api.Op{Code: code, A: n[0], B: n[1], C: n[2], D: n[3]})
}

// take returns a register that is not used.
func (b *builder) take() int {
	b.used++
	b.most = max(b.most, b.used)
	return b.used - 1
}

// constant returns a register with a number.
func (b *builder) constant(n int) int {
	if at := slices.Index(b.constants, n); at >= 0 {
		return firstConstant + at
	}
	if len(b.constants) < b.room {
		b.constants = append(b.constants, n)
		return firstConstant + len(b.constants) - 1
	}
	r := b.take()
	b.emit(bytecode.Const, r, n)
	return r
}

// move lets a register have the integer of another one.
func (b *builder) move(to, from int) {
	if to != from {
		b.emit(bytecode.Max, to, from, from)
	}
}

// free frees all registers that were taken behind one.
func (b *builder) free(last int) { b.used = last + 1 }

// clamp returns what has the integer of a variable, or the end of a span that is closest to it.
func (b *builder) clamp(v variable, s span) variable {
	if v.isWithin(s) {
		return v
	}
	to := b.take()
	bound := func(code, n int) {
		b.emit(code, to, v.reg, b.constant(n))
		b.free(to)
		v.reg = to
	}
	if v.lo < s.lo {
		bound(bytecode.Max, s.lo)
	}
	if v.hi > s.hi {
		bound(bytecode.Min, s.hi)
	}
	return variable{to, span{s.nearest(v.lo), s.nearest(v.hi)}}
}

// nearest returns the integer of a span that is closest to a number.
func (s span) nearest(n int) int { return min(max(n, s.lo), s.hi) }

// times adds a multiple of an expression to a sum.
func (b *builder) times(x *sum, l api.Linear, k int) {
	x.number += k * l.Const
	for _, t := range l.Terms {
		if v, ok := b.vars[t.Var]; ok {
			x.plus(v, k*t.C)
		} else {
			x.number += k * t.C * b.values[t.Var]
		}
	}
}

// plus adds a multiple of a variable to a sum.
func (x *sum) plus(v variable, k int) {
	at := slices.IndexFunc(x.terms, func(t term) bool { return t.reg == v.reg })
	if at < 0 {
		at = len(x.terms)
		x.terms = append(x.terms, term{v, 0})
	}
	if x.terms[at].factor += k; x.terms[at].factor == 0 {
		x.terms = slices.Delete(x.terms, at, at+1)
	}
}

// reach returns the span of a sum, and whether the machine can add it up, term by term.
func (x sum) reach() (span, bool) {
	s := span{x.number, x.number}
	ok := s.isWithin(machine)
	for _, t := range x.terms {
		if t.factor < -maxFactor || t.factor > maxFactor {
			return span{}, false
		}
		s.lo += min(t.factor*t.lo, t.factor*t.hi)
		s.hi += max(t.factor*t.lo, t.factor*t.hi)
		ok = ok && s.isWithin(machine)
	}
	return s, ok
}

// add returns a register with the value of a sum that the machine can add up.
func (b *builder) add(x sum) variable {
	s, _ := x.reach()
	terms := x.terms
	isBare := x.number == 0 && len(terms) > 0 && terms[0].factor == 1
	switch {
	case len(terms) == 0:
		return variable{b.constant(x.number), s}
	case isBare && len(terms) == 1:
		return variable{terms[0].reg, s}
	}
	to := b.take()
	var from int
	if isBare {
		from, terms = terms[0].reg, terms[1:]
	} else {
		from = b.constant(x.number)
	}
	for _, t := range terms {
		b.emit(bytecode.Add, to, from, t.reg, t.factor)
		from = to
	}
	b.free(to)
	return variable{to, s}
}

// expression returns a register with the value of an expression.
func (b *builder) expression(l api.Linear) variable {
	var x sum
	b.times(&x, l, 1)
	if _, ok := x.reach(); ok {
		return b.add(x)
	}
	high, low := sum{}, sum{number: x.number}
	for _, t := range x.terms {
		if t.factor/part != 0 {
			high.terms = append(high.terms, term{t.variable, t.factor / part})
		}
		if t.factor%part != 0 {
			low.terms = append(low.terms, term{t.variable, t.factor % part})
		}
	}
	to := b.take()
	h := b.clamp(b.add(high), span{-highMost, highMost})
	rest := b.clamp(b.add(low), span{-lowMost, lowMost})
	b.emit(bytecode.Add, to, rest.reg, h.reg, part)
	b.free(to)
	return variable{to, span{rest.lo + part*h.lo, rest.hi + part*h.hi}}
}
