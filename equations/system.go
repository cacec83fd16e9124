package equations

import (
	"slices"
	"strings"

	"framewise/api"
	"framewise/clone"
	"framewise/fresh"
	"framewise/intmath"
	"framewise/linear"
)

// Row is what is left of an expression behind all substitutions. If origins are tracked, it is the sum of the given expressions times Origins, divided by Den; there are no Origins if their numbers became too great.
type Row struct {
	Left    api.Linear
	Origins map[int]int
	Den     int
}

// System solves the first rows of a list, which have to be 0, and substitutes in all others. It has what was substituted, and what the fresh names stand for, in the order of the steps; At is the row at which solving ended.
type System struct {
	Rows  []Row
	At    int
	Bound []api.Bind
	Fresh []api.Bind
	Next  int
	count int
	track bool
	inRow map[string][]int
	inDim map[string][]int
}

// NewSystem returns the system of valid expressions, the first count of which have to be 0.
func NewSystem(l []api.Linear, count, next int, track bool) *System {
	s := &System{Next: next, count: count, track: track, inRow: map[string][]int{}, inDim: map[string][]int{}}
	for i, q := range l {
		r := Row{Left: q, Den: 1}
		if track {
			r.Origins = map[int]int{i: 1}
		}
		s.Rows = append(s.Rows, r)
		note(s.inRow, q, i)
	}
	return s
}

// Run goes through the rows in order, until each of them is 0.
func (s *System) Run() api.Errno {
	for s.At = 0; s.At < s.count; s.At++ {
		q := &s.Rows[s.At]
		for !linear.Equal(q.Left, api.Linear{}) {
			if e := q.divide(); e != api.OK {
				return e
			}
			t := choose(q.Left)
			step := s.introduce
			if t.C == 1 || t.C == -1 {
				step = s.eliminate
			}
			if e := step(q, t); e != api.OK {
				return e
			}
		}
	}
	return api.OK
}

// binds returns what was bound, but for the fresh names from a number on, sorted.
func (s *System) binds(from int) []api.Bind {
	var l []api.Bind
	for _, b := range s.Bound {
		if fresh.Number(b.Var) < from {
			l = append(l, api.Bind{Kind: api.DimVar, Var: b.Var, Dim: clone.Linear(b.Dim)})
		}
	}
	slices.SortFunc(l, func(a, b api.Bind) int { return strings.Compare(a.Var, b.Var) })
	return l
}

// divide divides an equation, which is not 0, by its content.
func (q *Row) divide() api.Errno {
	g := linear.Content(q.Left)
	if !divides(g, q.Left.Const) {
		return api.ErrNone
	}
	left := api.Linear{Const: q.Left.Const / g}
	for _, t := range q.Left.Terms {
		left.Terms = append(left.Terms, api.Coef{Var: t.Var, C: t.C / g})
	}
	q.Left = left
	if q.Origins != nil {
		q.comesFrom(q.Origins, q.Den*g)
	}
	return api.OK
}

// choose returns the term whose variable is substituted.
func choose(q api.Linear) api.Coef {
	best := q.Terms[0]
	for _, t := range q.Terms[1:] {
		less := max(t.C, -t.C) - max(best.C, -best.C)
		// The terms ascend, so of names that are not fresh the last one wins.
		if less < 0 || less == 0 && fresh.Number(t.Var) >= fresh.Number(best.Var) {
			best = t
		}
	}
	return best
}

// eliminate substitutes a variable with the coefficient 1 or -1 by what it has to be.
func (s *System) eliminate(q *Row, t api.Coef) api.Errno {
	pivot := *q
	dim := api.Linear{Const: -t.C * pivot.Left.Const}
	for _, u := range pivot.Left.Terms {
		if u.Var != t.Var {
			dim.Terms = append(dim.Terms, api.Coef{Var: u.Var, C: -t.C * u.C})
		}
	}
	return s.substitute(t.Var, dim, func(r *Row, c int) { r.subtract(pivot, c*t.C) })
}

// introduce substitutes a variable by a fresh one, such that all coefficients get less than its own.
func (s *System) introduce(q *Row, t api.Coef) api.Errno {
	quotient := func(n int) int {
		n, _ = intmath.Div(n, t.C)
		return n
	}
	shift := api.Linear{Const: -quotient(q.Left.Const)}
	for _, u := range q.Left.Terms {
		if n := quotient(u.C); u.Var != t.Var && n != 0 {
			shift.Terms = append(shift.Terms, api.Coef{Var: u.Var, C: -n})
		}
	}
	name := fresh.Name(s.Next)
	s.Next++
	if s.Next >= fresh.Limit {
		return api.ErrLimit
	}
	dim, e := linear.Add(shift, linear.Var(name))
	back, f := linear.Sub(linear.Var(t.Var), shift)
	if e = max(e, f); e != api.OK {
		return e
	}
	s.Fresh = append(s.Fresh, api.Bind{Kind: api.DimVar, Var: name, Dim: back})
	return s.substitute(t.Var, dim, func(*Row, int) {})
}

// substitute replaces a variable in all equations from the current one on, and in what was bound; adjust is told of each equation that changes, and of the coefficient ahead.
func (s *System) substitute(v string, dim api.Linear, adjust func(r *Row, c int)) api.Errno {
	by := []api.Bind{{Kind: api.DimVar, Var: v, Dim: dim}}
	for _, i := range s.inRow[v] {
		c := linear.Coef(s.Rows[i].Left, v)
		if i < s.At || c == 0 {
			continue
		}
		left, e := linear.Subst(s.Rows[i].Left, by)
		if e != api.OK {
			return e
		}
		s.Rows[i].Left = left
		if s.track {
			adjust(&s.Rows[i], c)
		}
		note(s.inRow, dim, i)
	}
	for _, i := range s.inDim[v] {
		if linear.Coef(s.Bound[i].Dim, v) == 0 {
			continue
		}
		changed, e := linear.Subst(s.Bound[i].Dim, by)
		if e != api.OK {
			return e
		}
		s.Bound[i].Dim = changed
		note(s.inDim, dim, i)
	}
	note(s.inDim, dim, len(s.Bound))
	s.Bound = append(s.Bound, api.Bind{Kind: api.DimVar, Var: v, Dim: dim})
	delete(s.inRow, v)
	delete(s.inDim, v)
	return api.OK
}

// note remembers a place for all variables of an expression.
func note(places map[string][]int, l api.Linear, i int) {
	for _, t := range l.Terms {
		places[t.Var] = append(places[t.Var], i)
	}
}
