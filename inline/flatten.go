package inline

import (
	"maps"
	"slices"
	"strconv"
	"strings"

	"framewise/api"
	"framewise/binding"
	"framewise/flat"
	"framewise/linear"
	"framewise/prims"
	"framewise/reduce"
	"framewise/shape"
)

// value is a value of the flat program, with its axes.
type value struct {
	number int
	axes   []int
}

// scope has what the variables of a definition stand for, the ambient frame, and the values of names.
type scope struct {
	table   binding.Table
	ambient []api.Linear
	names   map[string]value
}

// flattener has the definitions, the program so far, its variables, the types of its values, and the values of calls that added no instructions.
type flattener struct {
	list   []api.Typed
	flat   api.Flat
	vars   map[string]bool
	values []api.Type
	memo   map[string]value
}

// program makes the program of a definition; false if a limit is exceeded.
func (f *flattener) program(t api.Typed, table binding.Table) bool {
	f.flat.Vars = slices.Sorted(maps.Keys(f.vars))
	f.flat.Where = slices.Clone(t.Scheme.Where)
	inputs, e := table.Types(t.Scheme.Params)
	if e != api.OK {
		return false
	}
	s := scope{table, nil, map[string]value{}}
	for i, p := range inputs {
		f.grant(p.Shape.Dims)
		s.names[t.Params[i]] = value{number: i}
		f.values = append(f.values, p)
	}
	f.flat.Inputs = inputs
	v, ok := f.body(t.Body, s)
	f.flat.Results = []int{v.number}
	return ok
}

// grant adds expressions to Where that are not known to be at least 0.
func (f *flattener) grant(l []api.Linear) {
	for _, d := range l {
		if !flat.Granted(d, f.vars, f.flat.Where, f.values) {
			f.flat.Where = append(f.flat.Where, d)
		}
	}
}

// add adds an instruction, and returns its value with some axes; false if it would not be valid.
func (f *flattener) add(in api.Instr, axes []int) (value, bool) {
	t, conds, e := flat.Infer(f.values, in)
	if e != api.OK || len(f.flat.Code) == api.MaxInstrs {
		return value{}, false
	}
	in.Type = t
	f.grant(in.Frame)
	f.grant(conds)
	f.flat.Code = append(f.flat.Code, in)
	f.values = append(f.values, t)
	return value{len(f.values) - 1, axes}, true
}

// body flattens the nodes of a body.
func (f *flattener) body(n api.Node, s scope) (value, bool) {
	var visit func(n api.Node, names map[string]value) (value, bool)
	visit = func(n api.Node, names map[string]value) (value, bool) {
		var kids []value
		inner := names
		for i, k := range n.Kids {
			if n.Kind == api.TermLet && i == 1 {
				inner = maps.Clone(names)
				inner[n.Name] = kids[0]
			}
			v, ok := visit(k, inner)
			if !ok {
				return value{}, false
			}
			kids = append(kids, v)
		}
		switch n.Kind {
		case api.TermVar:
			return names[n.Name], true
		case api.TermLet:
			return kids[1], true
		}
		return f.node(n, s, kids)
	}
	return visit(n, s.names)
}

// node flattens a node behind its kids.
func (f *flattener) node(n api.Node, s scope, kids []value) (value, bool) {
	in := api.Instr{Op: n.Name, Num: n.Num, Check: n.Check}
	switch n.Kind {
	case api.TermLit:
		return f.add(api.Instr{Op: "const", Array: api.Array{Elem: n.Name, Data: []int{n.Num}}}, nil)
	case api.TermConst:
		return f.add(api.Instr{Op: "const", Array: n.Array}, nil)
	case api.TermSize:
		in = api.Instr{Op: "size"}
	case api.TermPack:
		in = api.Instr{Op: "pack"}
	case api.TermFold, api.TermScan:
		in = api.Instr{Op: map[int]string{api.TermFold: "fold", api.TermScan: "scan"}[n.Kind]}
		t, e := s.table.Type(n.Type)
		code, g := f.function(n.Name, t.Elem)
		if e != api.OK || g != api.OK {
			return value{}, false
		}
		in.Fun = code
	case api.TermCall:
		if _, ok := prims.Sig(n.Name); !ok {
			return f.call(n, s, kids)
		}
	}
	return f.instruction(in, n, s, kids)
}

// function returns the scalar code of a function whose result has an element type.
func (f *flattener) function(name, elem string) ([]api.Step, api.Errno) {
	if code, ok := reduce.Prim(name); ok {
		return code, api.OK
	}
	i := slices.IndexFunc(f.list, func(t api.Typed) bool { return t.Name == name })
	return scalarCode(f.list, f.list[i], elem)
}

// instruction adds the instruction of a node.
func (f *flattener) instruction(in api.Instr, n api.Node, s scope, kids []value) (value, bool) {
	frame, e := s.table.Shape(n.Frame)
	sizes, g := s.table.Linears(n.Sizes)
	if e != api.OK || g != api.OK {
		return value{}, false
	}
	in.Sizes = sizes
	var axes []int
	for _, k := range kids {
		axes = append(axes, k.axes...)
	}
	if in.Check != 0 {
		axes = places(0, len(s.ambient))
	}
	slices.Sort(axes)
	axes = slices.Compact(axes)
	for _, x := range axes {
		in.Frame = append(in.Frame, s.ambient[x])
	}
	in.Frame = append(in.Frame, frame.Dims...)
	for i, k := range kids {
		own := among(axes, k.axes)
		if len(n.Framed) > 0 && n.Framed[i] {
			own = append(own, places(len(axes), len(frame.Dims))...)
		}
		in.Args, in.Axes = append(in.Args, k.number), append(in.Axes, own)
	}
	return f.add(in, axes)
}

// places returns the numbers from a first one on.
func places(first, count int) []int {
	var l []int
	for i := range count {
		l = append(l, first+i)
	}
	return l
}

// among returns the places of numbers in an ascending list.
func among(list, numbers []int) []int {
	var l []int
	for _, n := range numbers {
		l = append(l, slices.Index(list, n))
	}
	return l
}

// call flattens the body of a definition, for the instance and the frame of a node.
func (f *flattener) call(n api.Node, s scope, kids []value) (value, bool) {
	inst, e := s.table.Binds(n.Inst)
	frame, g := s.table.Shape(n.Frame)
	if e != api.OK || g != api.OK {
		return value{}, false
	}
	fresh := places(len(s.ambient), len(frame.Dims))
	inner := scope{binding.New(inst), slices.Concat(s.ambient, frame.Dims), map[string]value{}}
	t := f.list[slices.IndexFunc(f.list, func(t api.Typed) bool { return t.Name == n.Name })]
	var args []value
	for i, k := range kids {
		if len(n.Framed) > 0 && n.Framed[i] {
			k.axes = slices.Concat(k.axes, fresh)
		}
		inner.names[t.Params[i]] = k
		args = append(args, k)
	}
	key := callKey(n.Name, inst, inner.ambient, args)
	v, known := f.memo[key]
	if !known {
		count := len(f.flat.Code)
		var ok bool
		if v, ok = f.body(t.Body, inner); !ok {
			return value{}, false
		}
		if len(f.flat.Code) == count {
			f.memo[key] = v
		}
	}
	return f.spread(v, inner, t.Scheme.Result, fresh)
}

// spread returns the value of a call: repeated for the places of the node's frame, if it does not have all of them.
func (f *flattener) spread(v value, s scope, result api.Type, fresh []int) (value, bool) {
	isOld := func(x int) bool { return len(fresh) == 0 || x < fresh[0] }
	old := slices.DeleteFunc(slices.Clone(v.axes), func(x int) bool { return !isOld(x) })
	if len(v.axes)-len(old) == len(fresh) {
		return value{v.number, old}, true
	}
	t, e := s.table.Type(result)
	if e != api.OK {
		return value{}, false
	}
	in := api.Instr{Op: same(t.Elem), Args: []int{v.number, v.number}}
	all := slices.Concat(old, fresh)
	for _, x := range all {
		in.Frame = append(in.Frame, s.ambient[x])
	}
	in.Frame = append(in.Frame, t.Shape.Dims...)
	for range 2 {
		in.Axes = append(in.Axes, append(among(all, v.axes), places(len(all), len(t.Shape.Dims))...))
	}
	return f.add(in, old)
}

// same returns the primitive that gives elements of a type back.
func same(elem string) string {
	if elem == api.Bool {
		return "and"
	}
	return "min"
}

// callKey returns a text that tells calls apart.
func callKey(name string, inst []api.Bind, ambient []api.Linear, args []value) string {
	parts := []string{name, dimsText(ambient)}
	for _, b := range inst {
		row, _ := shape.Print(b.Row)
		parts = append(parts, b.Var, linear.Print(b.Dim), row, b.Elem)
	}
	for _, a := range args {
		parts = append(parts, strconv.Itoa(a.number))
		for _, x := range a.axes {
			parts = append(parts, "@", strconv.Itoa(x))
		}
	}
	return strings.Join(parts, " ")
}

func dimsText(l []api.Linear) string {
	var parts []string
	for _, d := range l {
		parts = append(parts, linear.Print(d))
	}
	return strings.Join(parts, ",")
}
