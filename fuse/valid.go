package fuse

import (
	"slices"

	"framewise/api"
	"framewise/flat"
	"framewise/linear"
	"framewise/pull"
	"framewise/reduce"
	"framewise/shape"
	"framewise/types"
)

// Valid returns the number of kernels of a valid fused program.
func Valid(k api.Kernels) (at int, e api.Errno) {
	c := checker{ks: k, vars: map[string]bool{}, maker: map[int]int{}}
	if !c.head() {
		return -1, api.ErrCode
	}
	for i := range k.List {
		if !c.kernel(i) {
			return i, api.ErrCode
		}
		c.maker[k.List[i].Value] = i
	}
	isNone := func(r int) bool { return !c.isArray(r) }
	if len(k.Results) < 1 || len(k.Results) > flat.MaxResults || slices.ContainsFunc(k.Results, isNone) {
		return len(k.List), api.ErrCode
	}
	return len(k.List), api.OK
}

// checker has a fused program, its variables, and the last kernel so far of each value that has one.
type checker struct {
	ks    api.Kernels
	vars  map[string]bool
	maker map[int]int
}

// head checks what is outside of the kernels and the results.
func (c *checker) head() bool {
	k := c.ks
	if len(k.Vars) > api.MaxVars || k.Inputs < 0 || k.Inputs > flat.MaxInputs || len(k.Values) < k.Inputs || len(k.Values) > k.Inputs+api.MaxInstrs || len(k.List) > api.MaxInstrs {
		return false
	}
	for i, v := range k.Vars {
		if !linear.Name(v) || pull.IsLoop(v) || i > 0 && k.Vars[i-1] >= v {
			return false
		}
		c.vars[v] = true
	}
	isOther := func(l api.Linear) bool {
		return !linear.Valid(l) || slices.ContainsFunc(l.Terms, func(t api.Coef) bool { return !c.vars[t.Var] })
	}
	return !slices.ContainsFunc(k.Where, isOther) && !slices.ContainsFunc(k.Values, func(t api.Type) bool {
		return !types.Valid(t) || t.Shape.Row != "" || shape.ElemVar(t.Elem) || slices.ContainsFunc(t.Shape.Dims, isOther)
	})
}

// isArray reports whether a value is an input, or computed by a kernel so far.
func (c *checker) isArray(v int) bool {
	_, ok := c.maker[v]
	return v >= 0 && v < c.ks.Inputs || ok
}

// kernel checks a kernel behind those ahead of it.
func (c *checker) kernel(i int) bool {
	k := c.ks.List[i]
	if k.Value < c.ks.Inputs || k.Value >= len(c.ks.Values) {
		return false
	}
	t := c.ks.Values[k.Value]
	before, isAgain := c.maker[k.Value]
	isSecond := isAgain && before == i-1 && c.ks.List[before].Kind == api.KernelMap && k.Kind == api.KernelUpdate && k.Source == k.Value
	if isAgain && !isSecond || !isFormed(k) || !c.space(k, t.Shape.Dims) {
		return false
	}
	vars := slices.Clone(c.ks.Vars)
	for j := range k.Space {
		vars = append(vars, pull.Loop(j))
	}
	isRight := func(p api.Pull) bool {
		isHidden := func(v int) bool { return !c.isArray(v) || v == k.Value }
		return pull.Valid(p, vars, len(c.ks.Values)) && !slices.ContainsFunc(pull.Reads(p), isHidden)
	}
	if !isRight(k.Body) || t.Elem == api.Bool && !c.isTruth(k) {
		return false
	}
	if k.Kind != api.KernelUpdate {
		return true
	}
	return isRight(k.Index) && c.isArray(k.Source) && types.Equal(c.ks.Values[k.Source], t)
}

// isFormed reports whether a kernel has the fields of its kind alone.
func isFormed(k api.Kernel) bool {
	noIndex := pull.Equal(k.Index, api.Pull{})
	switch k.Kind {
	case api.KernelMap:
		return len(k.Fun) == 0 && k.Source == 0 && noIndex && k.Check == 0
	case api.KernelScan:
		return reduce.Valid(k.Fun, 2) && k.Source == 0 && noIndex && k.Check == 0
	case api.KernelUpdate:
		return len(k.Fun) == 0 && k.Check >= 0
	}
	return false
}

// space reports whether a kernel has the space that its value needs.
func (c *checker) space(k api.Kernel, dims []api.Linear) bool {
	if k.Kind != api.KernelMap && len(dims) == 0 {
		return false
	}
	if k.Kind == api.KernelUpdate {
		dims = dims[:len(dims)-1]
	}
	return slices.EqualFunc(k.Space, dims, linear.Equal)
}

// isTruth reports whether what a kernel computes are truth values.
func (c *checker) isTruth(k api.Kernel) bool {
	return c.truth(k.Body) && (k.Kind != api.KernelScan || truthCode(k.Fun, []bool{true, true}))
}

// truth reports whether a pull is a truth value.
func (c *checker) truth(p api.Pull) bool {
	var kids []bool
	for _, k := range p.Kids {
		kids = append(kids, c.truth(k))
	}
	switch p.Op {
	case "const":
		return p.Num == 0 || p.Num == 1
	case "read":
		return c.ks.Values[p.Value].Elem == api.Bool
	case "if":
		return kids[0] && kids[1]
	case "reduce":
		return kids[0] && truthCode(p.Fun, []bool{true, kids[1]})
	case "code":
		return truthCode(p.Fun, kids)
	}
	return truthPrim(p.Op, kids)
}

// truthPrim reports whether the value of a primitive is a truth value, for arguments some of which are.
func truthPrim(op string, args []bool) bool {
	switch op {
	case "lt", "le", "gt", "ge", "eq", "ne":
		return true
	case "and", "or", "xor", "not":
		return !slices.Contains(args, false)
	case "select":
		return args[1] && args[2]
	}
	return false
}

// truthCode reports whether scalar code is a truth value for arguments, some of which are.
func truthCode(code []api.Step, args []bool) bool {
	values := slices.Clone(args)
	for _, s := range code {
		if s.Op == "const" || s.Op == "truth" {
			values = append(values, s.Num == 0 || s.Num == 1)
			continue
		}
		var own []bool
		for _, a := range s.Args {
			own = append(own, values[a])
		}
		values = append(values, truthPrim(s.Op, own))
	}
	return values[len(values)-1]
}
