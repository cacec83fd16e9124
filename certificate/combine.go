package certificate

import (
	"maps"
	"slices"

	"framewise/api"
	"framewise/intmath"
	"framewise/linear"
)

// total is a sum of products of coefficients and multipliers, as many as there are: high counts 2^totalBits.
type total struct{ high, low int }

const totalBits = 40

func (t total) add(n int) total {
	n += t.low
	return total{t.high + n>>totalBits, n & (1<<totalBits - 1)}
}

// number returns the sum, if it is in the range of layer 3.
func (t total) number() (int, bool) {
	const most = intmath.Most >> totalBits
	return t.high<<totalBits + t.low, t.high >= -most && t.high < most
}

// combine returns the terms, ascending, and the constant of a combination of valid facts.
func combine(facts []api.Fact, mults []int) (terms []api.Coef, constant int, e api.Errno) {
	if len(mults) != len(facts) {
		return nil, 0, api.ErrProof
	}
	var last total
	sums := map[string]total{}
	for i, m := range mults {
		if m < -MaxMult || m > MaxMult || m < 0 && !facts[i].Equal {
			return nil, 0, api.ErrProof
		}
		last = last.add(m * facts[i].L.Const)
		for _, t := range facts[i].L.Terms {
			sums[t.Var] = sums[t.Var].add(m * t.C)
		}
	}
	constant, fits := last.number()
	for _, v := range slices.Sorted(maps.Keys(sums)) {
		n, ok := sums[v].number()
		fits = fits && ok
		if n != 0 || !ok {
			terms = append(terms, api.Coef{Var: v, C: n})
		}
	}
	if !fits {
		return nil, 0, api.ErrLimit
	}
	return terms, constant, api.OK
}

// cut returns the cut of a combination of valid facts.
func cut(facts []api.Fact, mults []int) (api.Linear, api.Errno) {
	terms, constant, e := combine(facts, mults)
	if e != api.OK {
		return api.Linear{}, e
	}
	if len(terms) == 0 {
		return api.Linear{}, api.ErrProof
	}
	g := 0
	for _, t := range terms {
		g, _ = intmath.Gcd(g, t.C)
	}
	l := api.Linear{}
	l.Const, _ = intmath.Div(constant, g)
	for _, t := range terms {
		l.Terms = append(l.Terms, api.Coef{Var: t.Var, C: t.C / g})
	}
	if !linear.Valid(l) {
		return api.Linear{}, api.ErrLimit
	}
	return l, api.OK
}
