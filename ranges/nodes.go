package ranges

import (
	"maps"
	"slices"

	"framewise/api"
	"framewise/linear"
	"framewise/prims"
)

// finder finds the ranges of the definitions of a right list; results are those of first nodes.
type finder struct {
	list    []api.Typed
	results map[int]Range
}

// result returns the range of the first node of a definition.
func (f *finder) result(i int) Range {
	if _, ok := f.results[i]; !ok {
		f.results[i] = f.definition(i)[0]
	}
	return f.results[i]
}

// definition returns the ranges of all nodes of a definition, in preorder.
func (f *finder) definition(i int) []Range {
	t := f.list[i]
	d := &definition{finder: f, hyps: Hyps(t.Scheme)}
	d.node(t.Body, map[string]Range{})
	for k, r := range d.ranges {
		d.ranges[k] = r.copied()
	}
	return d.ranges
}

// definition has the hypotheses of a definition, and the ranges of its nodes so far.
type definition struct {
	finder *finder
	hyps   []api.Linear
	ranges []Range
}

// node returns the range of a node, with those of the variables in scope.
func (d *definition) node(n api.Node, env map[string]Range) Range {
	at := len(d.ranges)
	d.ranges = append(d.ranges, Range{})
	var kids []Range
	for i, k := range n.Kids {
		inner := env
		if n.Kind == api.TermLet && i == 1 {
			inner = maps.Clone(env)
			inner[n.Name] = kids[0]
		}
		kids = append(kids, d.node(k, inner))
	}
	if n.Type.Elem == api.Int {
		d.ranges[at] = d.rule(n, kids, env)
	}
	return d.ranges[at]
}

// rule returns the range of a node of the element type int.
func (d *definition) rule(n api.Node, kids []Range, env map[string]Range) Range {
	switch n.Kind {
	case api.TermLit:
		return within(n.Num, n.Num)
	case api.TermConst:
		if len(n.Array.Data) > 0 {
			return within(slices.Min(n.Array.Data), slices.Max(n.Array.Data))
		}
	case api.TermSize:
		return d.small(of(n.Sizes[0], n.Sizes[0]))
	case api.TermVar:
		return env[n.Name]
	case api.TermLet:
		return kids[1]
	case api.TermPack:
		return Hull(d.hyps, kids)
	case api.TermFold, api.TermScan:
		if n.Name == "min" || n.Name == "max" {
			return Hull(d.hyps, kids)
		}
	case api.TermCall:
		if _, ok := prims.Sig(n.Name); ok {
			return d.primitive(n, kids)
		}
		return d.call(n)
	}
	return Range{}
}

// within returns the range between numbers that linear expressions can have.
func within(lo, hi int) Range {
	if lo < -api.MaxCoef || hi > api.MaxCoef {
		return Range{}
	}
	return between(lo, hi)
}

// small returns a range, if it is small.
func (d *definition) small(r Range) Range {
	if !Small(d.hyps, r) {
		return Range{}
	}
	return r
}

// call returns the range of the first node of a definition that is called, for the dimensions of the instance.
func (d *definition) call(n api.Node) Range {
	i := slices.IndexFunc(d.finder.list, func(t api.Typed) bool { return t.Name == n.Name })
	r := d.finder.result(i)
	end := func(isThere bool, l api.Linear) (api.Linear, bool) {
		l, e := linear.Subst(l, n.Inst)
		return l, isThere && e == api.OK
	}
	r.Lo, r.Low = end(r.Low, r.Lo)
	r.Hi, r.High = end(r.High, r.Hi)
	return r
}

// primitive returns the range of a call of a primitive.
func (d *definition) primitive(n api.Node, kids []Range) Range {
	switch n.Name {
	case "iota":
		hi, e := linear.Sub(n.Sizes[0], linear.Of(1))
		return Range{Low: true, High: e == api.OK, Hi: hi}
	case "fill", "take", "drop", "reverse", "transpose", "diagonal", "windows", "chunk":
		return kids[0]
	case "append":
		return Hull(d.hyps, kids)
	case "select":
		return Hull(d.hyps, kids[1:])
	case "update":
		return Hull(d.hyps, []Range{kids[0], kids[2]})
	case "index":
		return Hull(d.hyps, []Range{kids[0], between(0, 0)})
	case "sign":
		return between(-1, 1)
	case "toint":
		return between(0, 1)
	case "add", "sub", "neg":
		return d.sum(n.Name, kids)
	case "mul":
		return d.product(n, kids)
	case "mod":
		if isLit(n.Kids[1]) && n.Kids[1].Num >= 1 && n.Kids[1].Num <= api.MaxCoef {
			return between(0, n.Kids[1].Num-1)
		}
	case "min":
		r := Hull(d.hyps, kids)
		r.Hi, r.High = d.nearer(kids[0].High, kids[1].High, kids[0].Hi, kids[1].Hi, func(a, b api.Linear) bool { return atMost(d.hyps, b, a) })
		return r
	case "max":
		r := Hull(d.hyps, kids)
		r.Lo, r.Low = d.nearer(kids[0].Low, kids[1].Low, kids[0].Lo, kids[1].Lo, func(a, b api.Linear) bool { return atMost(d.hyps, a, b) })
		return r
	}
	return Range{}
}

func isLit(n api.Node) bool { return n.Kind == api.TermLit && n.Name == api.Int }

// sum returns the range of a sum, a difference or an opposite.
func (d *definition) sum(op string, kids []Range) Range {
	if op == "neg" {
		op, kids = "sub", []Range{between(0, 0), kids[0]}
	}
	a, b := kids[0], kids[1]
	if !a.Low || !a.High || !b.Low || !b.High {
		return Range{}
	}
	combine := linear.Add
	if op == "sub" {
		combine, b.Lo, b.Hi = linear.Sub, b.Hi, b.Lo
	}
	lo, e := combine(a.Lo, b.Lo)
	hi, f := combine(a.Hi, b.Hi)
	if e != api.OK || f != api.OK {
		return Range{}
	}
	return d.small(of(lo, hi))
}

// product returns the range of a product with a literal.
func (d *definition) product(n api.Node, kids []Range) Range {
	r, by := kids[0], n.Kids[1]
	if !isLit(by) {
		r, by = kids[1], n.Kids[0]
	}
	if !isLit(by) || !r.Low || !r.High {
		return Range{}
	}
	lo, e := linear.Scale(r.Lo, by.Num)
	hi, f := linear.Scale(r.Hi, by.Num)
	if e != api.OK || f != api.OK {
		return Range{}
	}
	if by.Num < 0 {
		lo, hi = hi, lo
	}
	return d.small(of(lo, hi))
}

// nearer returns the second end, if it is proved to be not farther than the first one, and otherwise the first one; or the one that is there.
func (d *definition) nearer(isA, isB bool, a, b api.Linear, isNear func(a, b api.Linear) bool) (api.Linear, bool) {
	if isB && (!isA || isNear(a, b)) {
		return b, true
	}
	return a, isA
}
