package cost

import (
	"slices"

	"framewise/api"
	"framewise/fuse"
	"framewise/poly"
	"framewise/pull"
)

// formula has the counts of a pull or a kernel as polynomials.
type formula struct{ reads, writes, ops api.Poly }

// Formula returns the formula of a kernel.
func Formula(ks api.Kernels, k int) (reads, writes, ops api.Poly, e api.Errno) {
	if _, e := fuse.Valid(ks); e != api.OK {
		return nil, nil, nil, e
	}
	if k < 0 || k >= len(ks.List) {
		return nil, nil, nil, api.ErrRange
	}
	kernel := ks.List[k]
	if kernel.Kind == api.KernelScan || !isRegular(kernel.Body, nil) || !isRegular(kernel.Index, nil) {
		return nil, nil, nil, api.ErrNone
	}
	var f former
	x := f.kernel(kernel, ks.Values[kernel.Value].Shape.Dims)
	if f.err != api.OK {
		return nil, nil, nil, f.err
	}
	return x.reads, x.writes, x.ops, api.OK
}

// isRegular reports whether a pull counts the same at each point, and as often as the variables of the program say: names are those of the reduces around it.
func isRegular(p api.Pull, names []string) bool {
	if p.Op == "if" {
		return false
	}
	for k, kid := range p.Kids {
		inner := names
		if p.Op == "reduce" && k == 1 {
			inner = append(slices.Clone(names), p.Name)
		}
		if !isRegular(kid, inner) {
			return false
		}
	}
	isVarying := func(t api.Coef) bool {
		return slices.Contains(names, t.Var) || t.Var[0] == 'i' && pull.IsLoop(t.Var)
	}
	return p.Op != "reduce" || !slices.ContainsFunc(p.At[0].Terms, isVarying)
}

// former adds and multiplies formulas, and keeps the first error.
type former struct{ err api.Errno }

// kept keeps the first error.
func (f *former) kept(p api.Poly, e api.Errno) api.Poly {
	if f.err == api.OK {
		f.err = e
	}
	return p
}

// sum adds up the parts of a formula.
func (f *former) sum(parts ...formula) formula {
	var sum formula
	for _, x := range parts {
		sum.reads = f.kept(poly.Add(sum.reads, x.reads))
		sum.writes = f.kept(poly.Add(sum.writes, x.writes))
		sum.ops = f.kept(poly.Add(sum.ops, x.ops))
	}
	return sum
}

// times multiplies a formula.
func (f *former) times(p api.Poly, x formula) formula {
	return formula{f.kept(poly.Mul(p, x.reads)), f.kept(poly.Mul(p, x.writes)), f.kept(poly.Mul(p, x.ops))}
}

// number returns a polynomial that is a number.
func (f *former) number(n int) api.Poly { return f.kept(poly.Number(n)) }

// kernel returns the formula of a kernel, whose value has some dimensions.
func (f *former) kernel(k api.Kernel, dims []api.Linear) formula {
	each := f.sum(f.pull(k.Body), formula{writes: f.number(1)})
	if k.Kind == api.KernelUpdate {
		each = f.sum(each, f.pull(k.Index))
	}
	x := f.times(f.kept(poly.Product(k.Space)), each)
	if k.Kind == api.KernelUpdate && k.Source != k.Value {
		one := formula{reads: f.number(1), writes: f.number(1)}
		x = f.sum(x, f.times(f.kept(poly.Product(dims)), one))
	}
	return x
}

// pull returns the formula of a pull.
func (f *former) pull(p api.Pull) formula {
	var kids []formula
	for _, k := range p.Kids {
		kids = append(kids, f.pull(k))
	}
	own := formula{}
	switch p.Op {
	case "const", "linear":
	case "read":
		own.reads = f.number(1)
	case "reduce":
		each := f.sum(kids[1], formula{ops: f.number(operations(p.Fun))})
		return f.sum(kids[0], f.times(f.kept(poly.Of(p.At[0])), each))
	case "code":
		own.ops = f.number(operations(p.Fun))
	default:
		own.ops = f.number(1)
	}
	return f.sum(append(kids, own)...)
}
