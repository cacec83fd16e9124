package compile

import (
	"slices"

	"framewise/api"
	"framewise/bytecode"
	"framewise/pull"
)

// kernel emits the instructions of a kernel.
func (b *builder) kernel(k api.Kernel) {
	b.used = 0
	index := pull.Index(len(k.Space))
	switch k.Kind {
	case api.KernelMap:
		b.loops(k.Space, func() {
			r, _ := b.value(k.Body)
			b.emit(bytecode.Store, b.address(k.Value, index), r)
		})
	case api.KernelScan:
		b.loops(k.Space, func() { b.scan(k, index) })
	case api.KernelUpdate:
		b.copied(k)
		b.loops(k.Space, func() { b.update(k, index) })
	}
}

// loops emits loops over a space, in which body emits what is repeated; nothing, if they are empty.
func (b *builder) loops(space []api.Linear, body func()) {
	dims := b.numbers(space)
	if slices.ContainsFunc(dims, func(n int) bool { return n <= 0 }) {
		return
	}
	for k, n := range dims {
		r := b.take()
		b.emit(bytecode.For, r, b.constant(0), b.constant(n), 1)
		b.free(r)
		b.vars[pull.Loop(k)] = variable{r, span{0, n - 1}}
	}
	body()
	for k := range dims {
		b.emit(bytecode.End)
		delete(b.vars, pull.Loop(k))
	}
}

// scan emits what computes an element of a scan.
func (b *builder) scan(k api.Kernel, index []api.Linear) {
	to := b.take()
	isTruth := b.into(k.Body, to)
	last := b.vars[pull.Loop(len(index)-1)]
	if last.hi > 0 {
		ahead := b.add(sum{number: -1, terms: []term{{last, 1}}})
		b.emit(bytecode.If, ahead.reg)
		ahead.lo = 0
		before := b.take()
		b.emit(bytecode.Load, before, b.address(k.Value, index[:len(index)-1], ahead))
		b.steps(k.Fun, []int{before, to}, []bool{false, isTruth}, to)
		b.emit(bytecode.End)
	}
	b.emit(bytecode.Store, b.address(k.Value, index), to)
}

// copied emits what copies the source of an update, unless it has the same place.
func (b *builder) copied(k api.Kernel) {
	from, to := b.plan.Places[k.Source], b.plan.Places[k.Value]
	if from.Offset == to.Offset || to.Size == 0 {
		return
	}
	r := b.take()
	word := variable{r, span{0, to.Size - 1}}
	b.emit(bytecode.For, r, b.constant(0), b.constant(to.Size), 1)
	source := b.add(sum{number: from.Offset, terms: []term{{word, 1}}})
	element := b.take()
	b.emit(bytecode.Load, element, source.reg)
	target := b.add(sum{number: to.Offset, terms: []term{{word, 1}}})
	b.emit(bytecode.Store, target.reg, element)
	b.emit(bytecode.End)
	b.used = 0
}

// update emits what replaces an element.
func (b *builder) update(k api.Kernel, index []api.Linear) {
	at, _ := b.value(k.Index)
	n, _ := b.value(k.Body)
	dims := b.shape(k.Value)
	length := dims[len(dims)-1]
	if length == 0 {
		b.emit(bytecode.Skip)
		b.violate(k.Check)
		return
	}
	b.emit(bytecode.If, b.inside(at, length))
	b.emit(bytecode.Store, b.address(k.Value, index, variable{at, ints}), n)
	b.emit(bytecode.Else)
	b.emit(bytecode.Skip)
	b.violate(k.Check)
	b.emit(bytecode.End)
}
