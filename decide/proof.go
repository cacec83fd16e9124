package decide

import (
	"slices"

	"framewise/api"
	"framewise/certificate"
	"framewise/intmath"
	"framewise/linear"
)

// combo shows that an expression is at least 0: den times it is the sum of facts times multipliers.
type combo struct {
	mults map[int]int
	den   int
}

// builder turns the steps of a proof into a certificate. An expression whose multipliers are greater than most becomes a fact of its own, by a cut.
type builder struct {
	search *search
	order  []int
	most   int
	facts  int
	needed map[*entry]bool
	combos map[*entry]combo
}

// certify returns a certificate: with as few cuts as possible, or else with more of them, which keep multipliers small.
func (s *search) certify(root *level, order []int) (api.Cert, bool) {
	for _, most := range []int{certificate.MaxMult, 20, 1} {
		b := builder{s, order, most, len(s.facts), map[*entry]bool{}, map[*entry]combo{}}
		b.markLevel(root)
		if c, ok := b.level(root); ok && certificate.Check(s.facts, c) == api.OK {
			return c, true
		}
	}
	return api.Cert{}, false
}

// markLevel marks all entries that the contradictions of a level come from.
func (b *builder) markLevel(at *level) {
	if at.end != nil {
		b.mark(at.end)
		return
	}
	for _, kid := range at.cases {
		b.markLevel(kid)
	}
}

func (b *builder) mark(q *entry) {
	if !b.needed[q] {
		b.needed[q] = true
		for _, p := range q.from.parents() {
			b.mark(p)
		}
	}
}

// level returns the certificate for a level, behind the facts so far.
func (b *builder) level(at *level) (api.Cert, bool) {
	defer func(n int) { b.facts = n }(b.facts)
	var cuts [][]int
	for _, q := range at.steps {
		if !b.needed[q] {
			continue
		}
		c, ok := b.express(q)
		if !ok {
			return api.Cert{}, false
		}
		least, ok := c.divided(q.content)
		if q != at.end && (q.rounded || !ok || least.greatest() > b.most) {
			cuts = append(cuts, c.list(b.facts))
			least = b.fact()
		}
		b.combos[q] = least
	}
	last, ok := b.last(at)
	for _, mults := range slices.Backward(cuts) {
		last = api.Cert{Kind: api.CertCut, Mults: mults, Kids: []api.Cert{last}}
	}
	return last, ok
}

// fact returns the combination that is the next further fact.
func (b *builder) fact() combo {
	b.facts++
	return combo{map[int]int{b.facts - 1: 1}, 1}
}

// last returns what stands behind the cuts of a level.
func (b *builder) last(at *level) (api.Cert, bool) {
	if at.end != nil {
		return api.Cert{Kind: api.CertSum, Mults: b.combos[at.end].list(b.facts)}, true
	}
	c := api.Cert{Kind: api.CertSplit, Linear: at.limit}
	for _, f := range slices.Backward(b.search.system.Fresh) {
		var e api.Errno
		if c.Linear, e = linear.Subst(c.Linear, []api.Bind{f}); e != api.OK {
			return api.Cert{}, false
		}
	}
	for i, kid := range at.cases {
		n := b.facts
		b.combos[at.assumed[i]] = b.fact()
		k, ok := b.level(kid)
		if !ok {
			return api.Cert{}, false
		}
		c.Kids = append(c.Kids, k)
		b.facts = n
	}
	return c, true
}

// express returns the combination for an entry ahead of its division.
func (b *builder) express(q *entry) (combo, bool) {
	switch from := q.from.(type) {
	case given:
		row := b.search.system.Rows[from.row]
		c := combo{map[int]int{}, row.Den}
		for i, m := range row.Origins {
			c.mults[b.order[i]] = m
		}
		return c, row.Origins != nil && c.greatest() <= certificate.MaxMult
	case paired:
		return b.combos[from.lower].plus(b.combos[from.upper], from.a, from.b)
	}
	return b.combos[q], true
}

// plus returns c times a, plus d times b; false if its numbers are too great.
func (c combo) plus(d combo, a, b int) (combo, bool) {
	den, e := intmath.Lcm(c.den, d.den)
	sum := combo{map[int]int{}, den}
	add := func(from combo, k int) {
		factor, f := intmath.Mul(k, den/from.den)
		for i, m := range from.mults {
			n, g := intmath.Dot([]int{sum.mults[i], m}, []int{1, factor})
			sum.mults[i] = n
			e = max(e, f, g)
		}
	}
	if e == api.OK {
		add(c, a)
		add(d, b)
	}
	sum, ok := sum.divided(1)
	return sum, ok && e == api.OK && sum.greatest() <= certificate.MaxMult
}

// divided returns the combination for an expression that was divided by a number, in lowest terms; false if its numbers are too great.
func (c combo) divided(by int) (combo, bool) {
	den, e := intmath.Mul(c.den, by)
	if e != api.OK {
		return c, false
	}
	g := den
	for _, m := range c.mults {
		g, _ = intmath.Gcd(g, m)
	}
	least := combo{map[int]int{}, den / g}
	for i, m := range c.mults {
		least.mults[i] = m / g
	}
	return least, true
}

// greatest returns the greatest absolute value of a multiplier, or the denominator.
func (c combo) greatest() int {
	most := c.den
	for _, m := range c.mults {
		most = max(most, m, -m)
	}
	return most
}

// list returns the multipliers for n facts.
func (c combo) list(n int) []int {
	l := make([]int, n)
	for i, m := range c.mults {
		l[i] = m
	}
	return l
}
