package sample

import (
	"slices"

	"framewise/api"
	"framewise/lifetime"
	"framewise/plan"
)

// Apart returns a plan in which each value has a place of its own.
func Apart(d *Dice, k api.Kernels, dims []api.Value) api.Plan {
	sizes, _ := lifetime.Sizes(k, dims)
	spans, _ := lifetime.Spans(k)
	p := api.Plan{InPlace: make([]int, len(k.List))}
	for v, n := range sizes {
		x := api.Place{Offset: -1}
		if spans[v].Last > -2 {
			x = api.Place{Offset: p.Peak, Size: n}
			p.Peak += n + d.N(2)
		}
		p.Places = append(p.Places, x)
	}
	return p
}

// Mixed returns a sound plan in which some values have the offsets of others.
func Mixed(d *Dice, k api.Kernels, p api.Plan, dims []api.Value) api.Plan {
	p.Peak += d.N(9)
	for range 3 * len(p.Places) {
		q := p
		q.Places = slices.Clone(p.Places)
		q.Places[d.N(len(p.Places))].Offset = Pick(d, q.Places[d.N(len(p.Places))].Offset, d.N(p.Peak+1))
		if plan.Sound(k, q, dims) {
			p = q
		}
	}
	return p
}
