package depend

import (
	"iter"
	"slices"
	"strings"

	"framewise/api"
	"framewise/decide"
	"framewise/fresh"
	"framewise/linear"
	"framewise/nest"
)

// anyValues is the number of values for which nests have to be valid.
const anyValues = 1000

// Directions returns the directions of a nest.
func Directions(n api.Nest, vars []string, hyps []api.Linear) ([][]int, api.Errno) {
	known := map[string]bool{}
	for _, v := range vars {
		if known[v] || strings.HasPrefix(v, "_") {
			return nil, api.ErrArg
		}
		known[v] = true
	}
	isWrong := func(l api.Linear) bool {
		return !linear.Valid(l) || slices.ContainsFunc(l.Terms, func(t api.Coef) bool { return !known[t.Var] })
	}
	if !nest.Valid(n, vars, anyValues) || slices.ContainsFunc(hyps, isWrong) {
		return nil, api.ErrArg
	}
	if len(n.Loops) > MaxLoops {
		return nil, api.ErrLimit
	}
	var found [][]int
	pairs := pairsOf(n)
	for d := range forward(len(n.Loops)) {
		if slices.ContainsFunc(pairs, func(p pair) bool { return !isRefuted(n, p, d, hyps) }) {
			found = append(found, d)
		}
	}
	return found, api.OK
}

// forward yields the forward directions for a number of loops, in ascending order.
func forward(loops int) iter.Seq[[]int] {
	return func(yield func([]int) bool) {
		var further func(d []int) bool
		further = func(d []int) bool {
			if len(d) == loops {
				return !Forward(d) || yield(slices.Clone(d))
			}
			for n := -1; n <= 1; n++ {
				if !further(append(d, n)) {
					return false
				}
			}
			return true
		}
		further(make([]int, 0, loops))
	}
}

// pair has the components that are known for an access at a first point, and one at a second point.
type pair struct{ first, second []api.Linear }

// pairsOf returns the different pairs of accesses, at least one of which is the write.
func pairsOf(n api.Nest) []pair {
	var pairs []pair
	add := func(a, b api.Access) {
		known := min(len(a.At), len(b.At))
		p := pair{a.At[:known], b.At[:known]}
		isSame := func(q pair) bool {
			return slices.EqualFunc(p.first, q.first, linear.Equal) && slices.EqualFunc(p.second, q.second, linear.Equal)
		}
		if !slices.ContainsFunc(pairs, isSame) {
			pairs = append(pairs, p)
		}
	}
	list := Accesses(n)
	for _, a := range list {
		add(list[0], a)
		add(a, list[0])
	}
	return pairs
}

// isRefuted reports whether no two points with a direction between them are in conflict by a pair of accesses.
func isRefuted(n api.Nest, p pair, direction []int, hyps []api.Linear) bool {
	b := &builder{nest: n}
	for point := range 2 {
		for k, l := range n.Loops {
			b.loop(k, l, point)
		}
	}
	for i, x := range p.first {
		b.put(b.isZero, b.at(x, 0), b.at(p.second[i], 1), 0)
	}
	for k, sign := range direction {
		first, second := b.variable(k, 0), b.variable(k, 1)
		switch sign {
		case 0:
			b.put(b.isZero, second, first, 0)
		case 1:
			b.put(b.isAtLeast, second, first, 1)
		default:
			b.put(b.isAtLeast, first, second, 1)
		}
	}
	for _, h := range hyps {
		b.isAtLeast(h)
	}
	if b.isOver {
		return false
	}
	verdict, _, _ := decide.Decide(b.facts)
	return verdict == decide.Unsat
}

// builder gathers facts about two points of a nest, which are 0 and 1. isOver says that a limit was exceeded.
type builder struct {
	nest   api.Nest
	facts  []api.Fact
	isOver bool
}

// isZero adds the fact that an expression is 0.
func (b *builder) isZero(l api.Linear) { b.facts = append(b.facts, api.Fact{Equal: true, L: l}) }

// isAtLeast adds the fact that an expression is at least 0.
func (b *builder) isAtLeast(l api.Linear) { b.facts = append(b.facts, api.Fact{L: l}) }

// put adds a fact about the difference of two expressions and a number.
func (b *builder) put(fact func(api.Linear), x, y api.Linear, less int) {
	fact(b.minus(b.minus(x, y), linear.Of(less)))
}

// minus returns the difference of two expressions.
func (b *builder) minus(x, y api.Linear) api.Linear { return b.checked(linear.Sub(x, y)) }

// checked keeps that an expression exceeds a limit.
func (b *builder) checked(l api.Linear, e api.Errno) api.Linear {
	if e != api.OK {
		b.isOver = true
	}
	return l
}

// variable returns the variable of a loop at a point.
func (b *builder) variable(k, point int) api.Linear {
	return linear.Var(fresh.Name(point*len(b.nest.Loops) + k + 1))
}

// multiple returns the variable that counts the steps of a loop ahead of a point.
func (b *builder) multiple(k, point int) api.Linear {
	return linear.Var(fresh.Name((2+point)*len(b.nest.Loops) + k + 1))
}

// at returns an expression at a point.
func (b *builder) at(l api.Linear, point int) api.Linear {
	var binds []api.Bind
	for k, x := range b.nest.Loops {
		binds = append(binds, api.Bind{Kind: api.DimVar, Var: x.Var, Dim: b.variable(k, point)})
	}
	return b.checked(linear.Subst(l, binds))
}

// loop adds the facts that a point lies within a loop.
func (b *builder) loop(k int, l api.Loop, point int) {
	x, lo := b.variable(k, point), b.at(l.Lo, point)
	b.put(b.isAtLeast, x, lo, 0)
	for _, hi := range l.Hi {
		b.put(b.isAtLeast, b.at(hi, point), x, 1)
	}
	if l.Step > 1 {
		steps := b.multiple(k, point)
		b.isAtLeast(steps)
		b.put(b.isZero, x, b.checked(linear.Add(lo, b.checked(linear.Scale(steps, l.Step)))), 0)
	}
}
