package equations

import (
	"framewise/api"
	"framewise/intmath"
	"framewise/linear"
)

// refute solves a system without a solution again, and returns a refutation; the zero one if its numbers become too great.
func refute(l []api.Linear, next int) Refutation {
	s := newSolver(l, next, true)
	if s.run() != api.ErrNone {
		return Refutation{}
	}
	q := s.list[s.at]
	if q.origins == nil {
		return Refutation{}
	}
	// The sum of the origins is den times what is left, whose coefficients are multiples of the content, but not the constant.
	r := Refutation{Mults: make([]int, len(l))}
	mod, e := intmath.Mul(q.den, linear.Content(q.left))
	if e != api.OK {
		return Refutation{}
	}
	parts := []int{mod}
	for i, m := range q.origins {
		if mod > 0 {
			m, _ = intmath.Mod(m, mod)
		}
		r.Mults[i] = m
		parts = append(parts, m)
	}
	g, e := intmath.Gcds(parts)
	if e != api.OK || g == 0 {
		return Refutation{}
	}
	for i := range r.Mults {
		r.Mults[i] /= g
	}
	r.Mod = mod / g
	if !Check(l, r) {
		return Refutation{}
	}
	return r
}

// dividedBy keeps the origins of an equation that was divided by a number.
func (q *equation) dividedBy(g int) {
	if q.origins != nil {
		q.comesFrom(q.origins, q.den*g)
	}
}

// subtract keeps the origins of an equation from which another one was subtracted k times.
func (q *equation) subtract(other equation, k int) {
	den, e := intmath.Lcm(q.den, other.den)
	if q.origins == nil || other.origins == nil || e != api.OK || den > MaxMult {
		q.origins = nil
		return
	}
	sum := map[int]int{}
	add := func(from equation, k int) {
		for i, m := range from.origins {
			n, f := intmath.Dot([]int{sum[i], m}, []int{1, den / from.den * k})
			sum[i] = n
			e = max(e, f)
		}
	}
	add(*q, 1)
	add(other, -k)
	if q.origins = nil; e == api.OK {
		q.comesFrom(sum, den)
	}
}

// comesFrom sets the origins of an equation, divided by what they have in common. They are lost if a number is too great.
func (q *equation) comesFrom(origins map[int]int, den int) {
	g := den
	for _, m := range origins {
		g, _ = intmath.Gcd(g, m)
	}
	q.origins, q.den = nil, den/g
	least := map[int]int{}
	for i, m := range origins {
		if least[i] = m / g; max(m/g, -m/g, q.den) > MaxMult {
			return
		}
	}
	q.origins = least
}
