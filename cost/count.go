package cost

import (
	"slices"
	"strconv"

	"framewise/api"
	"framewise/linear"
)

// tally is what is counted on the way through a pull.
type tally struct{ reads, ops, nodes int }

// node is a node of a pull, with the variables on which its counts depend. Counts are known for some of their values.
type node struct {
	pull  api.Pull
	kids  []*node
	vars  []string
	known map[string]tally
}

// newNode returns the node of a pull.
func newNode(p api.Pull) *node {
	n := &node{pull: p, known: map[string]tally{}}
	if p.Op == "if" || p.Op == "reduce" {
		n.vars = linear.Vars(p.At[0])
	}
	for k, kid := range p.Kids {
		x := newNode(kid)
		n.kids = append(n.kids, x)
		for _, v := range x.vars {
			if p.Op != "reduce" || k == 0 || v != p.Name {
				n.vars = append(n.vars, v)
			}
		}
	}
	slices.Sort(n.vars)
	n.vars = slices.Compact(n.vars)
	return n
}

// counter goes through a valid pull, for any values of its variables. It keeps the first error.
type counter struct {
	root *node
	env  []api.Value
	sum  tally
	err  api.Errno
}

func newCounter(p api.Pull) *counter { return &counter{root: newNode(p)} }

// count returns the counts for values of the variables.
func (c *counter) count(env []api.Value) (api.Counts, api.Errno) {
	c.env, c.sum, c.err = slices.Clone(env), tally{}, api.OK
	c.again(c.root)
	if c.err == api.OK && max(c.sum.reads, c.sum.ops) > maxCount {
		c.err = api.ErrLimit
	}
	if c.err != api.OK {
		return api.Counts{}, c.err
	}
	return api.Counts{Reads: c.sum.reads, Ops: c.sum.ops}, api.OK
}

// add adds a tally some times. More nodes than are permitted are an error, whatever else they count.
func (c *counter) add(t tally, times int) {
	times = min(times, MaxWork+1)
	c.sum = tally{c.sum.reads + times*t.reads, c.sum.ops + times*t.ops, c.sum.nodes + times*t.nodes}
	if c.sum.nodes > MaxWork && c.err == api.OK {
		c.err = api.ErrLimit
	}
}

// again goes through a node that may be reached often: what is known already is added.
func (c *counter) again(n *node) {
	key := c.key(n)
	if t, ok := n.known[key]; ok {
		c.add(t, 1)
		return
	}
	before := c.sum
	c.node(n)
	if c.err == api.OK {
		n.known[key] = tally{c.sum.reads - before.reads, c.sum.ops - before.ops, c.sum.nodes - before.nodes}
	}
}

// key returns a text of the values on which the counts of a node depend.
func (c *counter) key(n *node) string {
	var b []byte
	for _, v := range n.vars {
		at := slices.IndexFunc(c.env, func(x api.Value) bool { return x.Var == v })
		b = append(strconv.AppendInt(b, int64(c.env[at].N), 10), ' ')
	}
	return string(b)
}

// node goes through a node.
func (c *counter) node(n *node) {
	if c.add(tally{nodes: 1}, 1); c.err != api.OK {
		return
	}
	switch p := n.pull; p.Op {
	case "const", "linear":
	case "read":
		c.sum.reads++
		c.kids(n)
	case "if":
		kid := n.kids[1]
		if c.linear(p.At[0]) >= 0 {
			kid = n.kids[0]
		}
		c.node(kid)
	case "reduce":
		c.reduce(n)
	case "code":
		c.sum.ops += operations(p.Fun)
		c.kids(n)
	default:
		c.sum.ops++
		c.kids(n)
	}
}

// kids goes through all kids.
func (c *counter) kids(n *node) {
	for _, k := range n.kids {
		if c.err == api.OK {
			c.node(k)
		}
	}
}

// reduce goes through a reduce. If the kid does not depend on the name, it counts the same every time.
func (c *counter) reduce(n *node) {
	p := n.pull
	c.node(n.kids[0])
	if c.err != api.OK {
		return
	}
	count, kid := c.linear(p.At[0]), n.kids[1]
	isSame := !slices.Contains(kid.vars, p.Name)
	for i := 0; i < count && c.err == api.OK; i++ {
		before := c.sum
		c.env = append(c.env, api.Value{Var: p.Name, N: i})
		c.again(kid)
		c.env = c.env[:len(c.env)-1]
		c.sum.ops += operations(p.Fun)
		if isSame && c.err == api.OK {
			once := tally{c.sum.reads - before.reads, c.sum.ops - before.ops, c.sum.nodes - before.nodes}
			c.add(once, count-1)
			return
		}
	}
}

// linear returns the value of an expression.
func (c *counter) linear(l api.Linear) int {
	n, e := linear.Eval(l, c.env)
	if e != api.OK && c.err == api.OK {
		c.err = e
	}
	return n
}

// operations returns how many steps of scalar code are operations.
func operations(code []api.Step) int {
	n := 0
	for _, s := range code {
		if s.Op != "const" && s.Op != "truth" {
			n++
		}
	}
	return n
}
