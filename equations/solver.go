package equations

import (
	"slices"
	"strings"

	"framewise/api"
	"framewise/fresh"
	"framewise/intmath"
	"framewise/linear"
)

// equation is what is left of an equation. If origins are tracked, it is their sum divided by den.
type equation struct {
	left    api.Linear
	origins map[int]int
	den     int
}

// solver has the equations, what was substituted so far, in the order of the steps, and for each variable the places where it may occur.
type solver struct {
	list  []equation
	at    int
	bound []api.Bind
	inEq  map[string][]int
	inDim map[string][]int
	next  int
	track bool
}

func newSolver(l []api.Linear, next int, track bool) *solver {
	s := &solver{inEq: map[string][]int{}, inDim: map[string][]int{}, next: next, track: track}
	for i, q := range l {
		e := equation{left: q, den: 1}
		if track {
			e.origins = map[int]int{i: 1}
		}
		s.list = append(s.list, e)
		note(s.inEq, q, i)
	}
	return s
}

// run goes through the equations in order, until each of them is 0.
func (s *solver) run() api.Errno {
	for s.at = range s.list {
		q := &s.list[s.at]
		for !linear.Equal(q.left, api.Linear{}) {
			if e := s.divide(q); e != api.OK {
				return e
			}
			t := choose(q.left)
			step := s.introduce
			if t.C == 1 || t.C == -1 {
				step = s.eliminate
			}
			if e := step(q, t); e != api.OK {
				return e
			}
		}
	}
	return api.OK
}

// binds returns what was bound, but for the fresh names from a number on, sorted.
func (s *solver) binds(from int) []api.Bind {
	var l []api.Bind
	for _, b := range s.bound {
		if fresh.Number(b.Var) < from {
			l = append(l, api.Bind{Kind: api.DimVar, Var: b.Var, Dim: clone(b.Dim)})
		}
	}
	slices.SortFunc(l, func(a, b api.Bind) int { return strings.Compare(a.Var, b.Var) })
	return l
}

// divide divides an equation by its content.
func (s *solver) divide(q *equation) api.Errno {
	g := linear.Content(q.left)
	if !divides(g, q.left.Const) {
		return api.ErrNone
	}
	left := api.Linear{Const: q.left.Const / g}
	for _, t := range q.left.Terms {
		left.Terms = append(left.Terms, api.Coef{Var: t.Var, C: t.C / g})
	}
	q.left = left
	q.dividedBy(g)
	return api.OK
}

// choose returns the term whose variable is substituted.
func choose(q api.Linear) api.Coef {
	best := q.Terms[0]
	for _, t := range q.Terms[1:] {
		less := max(t.C, -t.C) - max(best.C, -best.C)
		// The terms ascend, so of names that are not fresh the last one wins.
		if less < 0 || less == 0 && fresh.Number(t.Var) >= fresh.Number(best.Var) {
			best = t
		}
	}
	return best
}

// eliminate substitutes a variable with the coefficient 1 or -1 by what it has to be.
func (s *solver) eliminate(q *equation, t api.Coef) api.Errno {
	pivot := *q
	dim := api.Linear{Const: -t.C * pivot.left.Const}
	for _, u := range pivot.left.Terms {
		if u.Var != t.Var {
			dim.Terms = append(dim.Terms, api.Coef{Var: u.Var, C: -t.C * u.C})
		}
	}
	return s.substitute(t.Var, dim, func(r *equation, c int) { r.subtract(pivot, c*t.C) })
}

// introduce substitutes a variable by a fresh one, such that all coefficients get less than its own.
func (s *solver) introduce(q *equation, t api.Coef) api.Errno {
	quotient := func(n int) int {
		n, _ = intmath.Div(n, t.C)
		return n
	}
	shift := api.Linear{Const: -quotient(q.left.Const)}
	for _, u := range q.left.Terms {
		if n := quotient(u.C); u.Var != t.Var && n != 0 {
			shift.Terms = append(shift.Terms, api.Coef{Var: u.Var, C: -n})
		}
	}
	dim, e := linear.Add(shift, linear.Var(fresh.Name(s.next)))
	if e != api.OK {
		return e
	}
	s.next++
	if s.next >= fresh.Limit {
		return api.ErrLimit
	}
	return s.substitute(t.Var, dim, func(*equation, int) {})
}

// substitute replaces a variable in all equations from the current one on, and in what was bound; adjust is told of each equation that changes, and of the coefficient ahead.
func (s *solver) substitute(v string, dim api.Linear, adjust func(r *equation, c int)) api.Errno {
	by := []api.Bind{{Kind: api.DimVar, Var: v, Dim: dim}}
	for _, i := range s.inEq[v] {
		c := linear.Coef(s.list[i].left, v)
		if i < s.at || c == 0 {
			continue
		}
		left, e := linear.Subst(s.list[i].left, by)
		if e != api.OK {
			return e
		}
		s.list[i].left = left
		if s.track {
			adjust(&s.list[i], c)
		}
		note(s.inEq, dim, i)
	}
	for _, i := range s.inDim[v] {
		if linear.Coef(s.bound[i].Dim, v) == 0 {
			continue
		}
		changed, e := linear.Subst(s.bound[i].Dim, by)
		if e != api.OK {
			return e
		}
		s.bound[i].Dim = changed
		note(s.inDim, dim, i)
	}
	note(s.inDim, dim, len(s.bound))
	s.bound = append(s.bound, api.Bind{Kind: api.DimVar, Var: v, Dim: dim})
	delete(s.inEq, v)
	delete(s.inDim, v)
	return api.OK
}

// note remembers a place for all variables of an expression.
func note(places map[string][]int, l api.Linear, i int) {
	for _, t := range l.Terms {
		places[t.Var] = append(places[t.Var], i)
	}
}

func clone(l api.Linear) api.Linear { return api.Linear{Const: l.Const, Terms: slices.Clone(l.Terms)} }
