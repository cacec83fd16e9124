package equations

import (
	"framewise/api"
	"framewise/intmath"
	"framewise/linear"
)

// refute solves a system without a solution again, and returns a refutation; the zero one if its numbers become too great.
func refute(l []api.Linear, next int) Refutation {
	s := NewSystem(l, len(l), next, true)
	if s.Run() != api.ErrNone {
		return Refutation{}
	}
	q := s.Rows[s.At]
	if q.Origins == nil {
		return Refutation{}
	}
	// The sum of the origins is den times what is left, whose coefficients are multiples of the content, but not the constant.
	r := Refutation{Mults: make([]int, len(l))}
	mod, e := intmath.Mul(q.Den, linear.Content(q.Left))
	if e != api.OK {
		return Refutation{}
	}
	parts := []int{mod}
	for i, m := range q.Origins {
		if mod > 0 {
			m, _ = intmath.Mod(m, mod)
		}
		r.Mults[i] = m
		parts = append(parts, m)
	}
	g, e := intmath.Gcds(parts)
	if e != api.OK || g == 0 {
		return Refutation{}
	}
	for i := range r.Mults {
		r.Mults[i] /= g
	}
	r.Mod = mod / g
	if !Check(l, r) {
		return Refutation{}
	}
	return r
}

// subtract keeps the origins of an equation from which another one was subtracted k times.
func (q *Row) subtract(other Row, k int) {
	den, e := intmath.Lcm(q.Den, other.Den)
	if q.Origins == nil || other.Origins == nil || e != api.OK || den > MaxMult {
		q.Origins = nil
		return
	}
	sum := map[int]int{}
	add := func(from Row, k int) {
		for i, m := range from.Origins {
			n, f := intmath.Dot([]int{sum[i], m}, []int{1, den / from.Den * k})
			sum[i] = n
			e = max(e, f)
		}
	}
	add(*q, 1)
	add(other, -k)
	if q.Origins = nil; e == api.OK {
		q.comesFrom(sum, den)
	}
}

// comesFrom sets the origins of an equation, divided by what they have in common. They are lost if a number is too great.
func (q *Row) comesFrom(origins map[int]int, den int) {
	g := den
	for _, m := range origins {
		g, _ = intmath.Gcd(g, m)
	}
	q.Origins, q.Den = nil, den/g
	least := map[int]int{}
	for i, m := range origins {
		if least[i] = m / g; max(m/g, -m/g, q.Den) > MaxMult {
			return
		}
	}
	q.Origins = least
}
