package decide

import (
	"slices"
	"strings"

	"framewise/api"
	"framewise/equations"
	"framewise/intmath"
	"framewise/linear"
)

// maxNumber is the greatest value that a variable of a list gets.
const maxNumber = 1000000

// search has the system of the equations, the rows of it that are the other facts, the number of pairs of cases, and the values that were found.
type search struct {
	facts  []api.Fact
	system *equations.System
	others []int
	pairs  int
	point  []api.Value
}

// entry is an expression that is at least 0. It was divided by content; rounded says that its constant was not a multiple of it.
type entry struct {
	terms    []api.Coef
	constant int
	from     origin
	content  int
	rounded  bool
}

// origin says where an entry comes from.
type origin interface{ parents() []*entry }

// given is a row of the system, assumed the hypothesis of a case, and paired a lower bound times a plus an upper bound times b.
type (
	given   struct{ row int }
	assumed struct{}
	paired  struct {
		lower, upper *entry
		a, b         int
	}
)

func (given) parents() []*entry { return nil }

func (assumed) parents() []*entry { return nil }

func (p paired) parents() []*entry { return []*entry{p.lower, p.upper} }

// level is a part of the proof: the entries of a case, and either the last one, which contradicts itself, or two cases: the limit is at least 0, or at most -1.
type level struct {
	steps   []*entry
	end     *entry
	limit   api.Linear
	assumed [2]*entry
	cases   [2]*level
}

// list has expressions that are at least 0, with different terms.
type list []*entry

// put puts an expression into a list; the verdict is 0 if there is none yet.
func (l *list) put(q *entry, at *level) (verdict int) {
	if len(q.terms) == 0 {
		if q.constant >= 0 {
			return 0
		}
		q.content = 1
		at.steps, at.end = append(at.steps, q), q
		return Unsat
	}
	if !q.tighten() {
		return Unknown
	}
	same := func(o *entry) bool { return slices.Equal(o.terms, q.terms) }
	if i := slices.IndexFunc(*l, same); i < 0 {
		*l = append(*l, q)
	} else if q.constant < (*l)[i].constant {
		(*l)[i] = q
	} else {
		return 0
	}
	at.steps = append(at.steps, q)
	if len(*l) > MaxList {
		return Unknown
	}
	return 0
}

// tighten divides an entry with terms by its content, and reports whether it is valid then.
func (q *entry) tighten() bool {
	g := 0
	for _, t := range q.terms {
		g, _ = intmath.Gcd(g, t.C)
	}
	terms := slices.Clone(q.terms)
	for i := range terms {
		terms[i].C /= g
	}
	q.rounded = q.constant%g != 0
	q.constant, _ = intmath.Div(q.constant, g)
	q.terms, q.content = terms, g
	return linear.Valid(api.Linear{Const: q.constant, Terms: terms})
}

// coef returns the coefficient of a variable.
func (q *entry) coef(v string) int { return linear.Coef(api.Linear{Terms: q.terms}, v) }

// removal is a variable that was eliminated, with its bounds.
type removal struct {
	name         string
	lower, upper []*entry
}

// eliminate takes all variables out of a list, and then finds values for them, or goes on with cases.
func (s *search) eliminate(first list, at *level, depth int) (verdict int) {
	l := slices.Clone(first)
	var removed []removal
	for len(l) > 0 {
		r := l.remove(l.choose())
		removed = append(removed, r)
		for _, low := range r.lower {
			for _, up := range r.upper {
				if verdict := l.put(pair(low, up, r.name), at); verdict != 0 {
					return verdict
				}
			}
		}
	}
	known := map[string]int{}
	for _, r := range slices.Backward(removed) {
		n, hi, verdict := r.number(known)
		if verdict == Unsat {
			return s.split(first, at, r.name, hi, depth)
		}
		if verdict != Sat {
			return verdict
		}
		known[r.name] = n
	}
	point, ok := s.values(known)
	if !ok {
		return Unknown
	}
	s.point = point
	return Sat
}

// choose returns the variable with the least product of the numbers of its bounds, of several the first one.
func (l list) choose() string {
	lower, upper := map[string]int{}, map[string]int{}
	var names []string
	for _, q := range l {
		for _, t := range q.terms {
			if lower[t.Var]+upper[t.Var] == 0 {
				names = append(names, t.Var)
			}
			if t.C > 0 {
				lower[t.Var]++
			} else {
				upper[t.Var]++
			}
		}
	}
	return slices.MinFunc(names, func(a, b string) int {
		if less := lower[a]*upper[a] - lower[b]*upper[b]; less != 0 {
			return less
		}
		return strings.Compare(a, b)
	})
}

// remove takes away all expressions with a variable.
func (l *list) remove(v string) removal {
	r := removal{name: v}
	var rest list
	for _, q := range *l {
		switch c := q.coef(v); {
		case c > 0:
			r.lower = append(r.lower, q)
		case c < 0:
			r.upper = append(r.upper, q)
		default:
			rest = append(rest, q)
		}
	}
	*l = rest
	return r
}

// pair returns the sum of multiples of a lower and an upper bound in which the variable does not occur.
func pair(lower, upper *entry, v string) *entry {
	a, b := lower.coef(v), -upper.coef(v)
	g, _ := intmath.Gcd(a, b)
	p := paired{lower, upper, b / g, a / g}
	q := &entry{constant: p.a*lower.constant + p.b*upper.constant, from: p}
	m, n := lower.terms, upper.terms
	for len(m) > 0 || len(n) > 0 {
		t := api.Coef{}
		switch {
		case len(n) == 0 || len(m) > 0 && m[0].Var < n[0].Var:
			t, m = api.Coef{Var: m[0].Var, C: p.a * m[0].C}, m[1:]
		case len(m) == 0 || m[0].Var > n[0].Var:
			t, n = api.Coef{Var: n[0].Var, C: p.b * n[0].C}, n[1:]
		default:
			t, m, n = api.Coef{Var: m[0].Var, C: p.a*m[0].C + p.b*n[0].C}, m[1:], n[1:]
		}
		if t.C != 0 {
			q.terms = append(q.terms, t)
		}
	}
	return q
}

// number returns the number closest to 0 between the bounds of a variable, and Sat; Unsat, and the greatest number that the upper bounds permit, if there is none; Unknown if it is too great.
func (r removal) number(known map[string]int) (n, hi, verdict int) {
	rest := func(q *entry) int { return value(q.terms, q.constant, known) }
	var lo int
	for i, q := range r.lower {
		least, _ := intmath.Ceil(-rest(q), q.coef(r.name))
		if lo = max(lo, least); i == 0 {
			lo = least
		}
	}
	for i, q := range r.upper {
		most, _ := intmath.Div(rest(q), -q.coef(r.name))
		if hi = min(hi, most); i == 0 {
			hi = most
		}
	}
	isLow, isHigh := len(r.lower) > 0, len(r.upper) > 0
	switch {
	case isLow && isHigh && lo > hi:
		return 0, hi, Unsat
	case isLow && lo > 0:
		n = lo
	case isHigh && hi < 0:
		n = hi
	}
	if n < -maxNumber || n > maxNumber {
		return 0, 0, Unknown
	}
	return n, 0, Sat
}

// split looks at the cases that a variable is at most hi, and that it is greater.
func (s *search) split(first list, at *level, v string, hi, depth int) (verdict int) {
	if hi < -maxNumber || hi >= maxNumber || depth >= MaxDepth || s.pairs >= MaxSplits {
		return Unknown
	}
	s.pairs++
	at.limit = api.Linear{Const: hi, Terms: []api.Coef{{Var: v, C: -1}}}
	verdicts := [2]int{}
	for i, sign := range []int{-1, 1} {
		q := &entry{terms: []api.Coef{{Var: v, C: sign}}, constant: -sign * hi, from: assumed{}}
		if sign > 0 {
			q.constant--
		}
		at.assumed[i], at.cases[i] = q, &level{}
		l := slices.Clone(first)
		if verdicts[i] = l.put(q, at.cases[i]); verdicts[i] == 0 {
			verdicts[i] = s.eliminate(l, at.cases[i], depth+1)
		}
		if verdicts[i] == Sat {
			return Sat
		}
	}
	return max(verdicts[0], verdicts[1])
}
