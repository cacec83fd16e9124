package inline

import (
	"maps"
	"slices"
	"strconv"
	"strings"

	"framewise/api"
	"framewise/prims"
	"framewise/reduce"
)

// coder makes scalar code: the steps so far, the number of arguments, and the values of calls that added no steps.
type coder struct {
	list  []api.Typed
	steps []api.Step
	args  int
	memo  map[string]int
}

// scalarCode returns the scalar code of a definition whose result has an element type.
func scalarCode(l []api.Typed, t api.Typed, elem string) ([]api.Step, api.Errno) {
	c := coder{list: l, args: len(t.Params), memo: map[string]int{}}
	names := map[string]int{}
	for i, p := range t.Params {
		names[p] = i
	}
	v, e := c.node(t.Body, names)
	if e == api.OK && v != c.args+len(c.steps)-1 {
		_, e = c.add(api.Step{Op: same(elem), Args: []int{v, v}})
	}
	if e != api.OK {
		return nil, e
	}
	return c.steps, api.OK
}

// add adds a step, and returns its value.
func (c *coder) add(s api.Step) (int, api.Errno) {
	if len(c.steps) == reduce.MaxSteps {
		return 0, api.ErrLimit
	}
	c.steps = append(c.steps, s)
	return c.args + len(c.steps) - 1, api.OK
}

// node returns the value of a node, behind those of its kids.
func (c *coder) node(n api.Node, names map[string]int) (int, api.Errno) {
	var kids []int
	inner := names
	for i, k := range n.Kids {
		if n.Kind == api.TermLet && i == 1 {
			inner = maps.Clone(names)
			inner[n.Name] = kids[0]
		}
		v, e := c.node(k, inner)
		if e != api.OK {
			return 0, e
		}
		kids = append(kids, v)
	}
	switch n.Kind {
	case api.TermVar:
		return names[n.Name], api.OK
	case api.TermLet:
		return kids[1], api.OK
	case api.TermLit:
		op := "const"
		if n.Name == api.Bool {
			op = "truth"
		}
		return c.add(api.Step{Op: op, Num: n.Num})
	case api.TermCall:
		sig, ok := prims.Sig(n.Name)
		if !ok {
			return c.call(n.Name, kids)
		}
		if sig.Scalar {
			return c.add(api.Step{Op: n.Name, Args: kids})
		}
	}
	return 0, api.ErrState
}

// call returns the value of the body of a definition for arguments.
func (c *coder) call(name string, args []int) (int, api.Errno) {
	parts := []string{name}
	for _, a := range args {
		parts = append(parts, strconv.Itoa(a))
	}
	key := strings.Join(parts, " ")
	if v, ok := c.memo[key]; ok {
		return v, api.OK
	}
	t := c.list[slices.IndexFunc(c.list, func(t api.Typed) bool { return t.Name == name })]
	names := map[string]int{}
	for i, p := range t.Params {
		names[p] = args[i]
	}
	count := len(c.steps)
	v, e := c.node(t.Body, names)
	if e == api.OK && len(c.steps) == count {
		c.memo[key] = v
	}
	return v, e
}
