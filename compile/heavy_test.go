package compile_test

import (
	"fmt"
	"slices"
	"testing"

	"framewise/api"
	"framewise/bytecode"
	"framewise/compile"
	"framewise/fuse"
	"framewise/plan"
	"framewise/sample"
	"framewise/verify"
)

// heavy writes random pulls that spend a weight, for variables in ascending order.
type heavy struct {
	d    *sample.Dice
	vars []string
}

// weight returns the weight of a pull.
func weight(p api.Pull) int {
	k := single("int", p)
	return compile.Weight(k) - compile.Weight(single("int", api.Pull{})) + 1
}

// expressions returns so many expressions, as far as a weight permits.
func (h *heavy) expressions(count, most int) []api.Linear {
	var l []api.Linear
	for k := range count {
		x := api.Linear{Const: h.d.N(2000001) - 1000000}
		most--
		for _, v := range slices.Sorted(slices.Values(h.vars)) {
			if most >= count-k && len(x.Terms) < api.MaxVars && h.d.N(4) > 0 {
				x.Terms = append(x.Terms, api.Coef{Var: v, C: sample.Pick(h.d, 1, 1, -1, 1000000, -999999, 4096, 1023)})
				most--
			}
		}
		l = append(l, x)
	}
	return l
}

// kids gives a pull kids, each of which has at most its share of a weight.
func (h *heavy) kids(p *api.Pull, count, most, levels int) {
	for k := range count {
		share := (most - weight(*p) - (count - k - 1)) / (count - k)
		if h.d.N(2) == 0 {
			share = most - weight(*p) - (count - k - 1)
		}
		p.Kids = append(p.Kids, h.pull(share, levels-1))
	}
}

// pull returns a pull of at most a weight, and of at most so many levels.
func (h *heavy) pull(most, levels int) api.Pull {
	d := h.d
	if most < 10 || levels == 1 {
		return h.leaf(most)
	}
	var p api.Pull
	switch d.N(7) {
	case 0:
		p = api.Pull{Op: "if", At: h.expressions(1, most/3)}
		h.kids(&p, 2, most, levels)
	case 1, 2:
		p = api.Pull{Op: "reduce", Name: fmt.Sprintf("j%02d", len(h.vars)), At: h.expressions(1, most/3), Fun: sample.Prim(sample.Pick(d, "add", "and", "eq", "max"))}
		h.kids(&p, 1, most/2, levels)
		h.vars = append(h.vars, p.Name)
		p.Kids = append(p.Kids, h.pull(most-weight(p), levels-1))
		h.vars = h.vars[:len(h.vars)-1]
	case 3:
		p = api.Pull{Op: "read", Dynamic: true, Value: d.N(3), Check: 1 + d.N(1000000), At: h.expressions(d.N(3), most/2)}
		h.kids(&p, 1, most, levels)
	case 4:
		count := 1 + d.N(min(20, most/2))
		p = api.Pull{Op: "code"}
		p.Fun = h.steps(count, min(60, d.N(most-count)))
		h.kids(&p, count, most, levels)
	default:
		p.Op = sample.Pick(d, "add", "xor", "select", "lt", "not")
		h.kids(&p, map[string]int{"add": 2, "xor": 2, "lt": 2, "select": 3, "not": 1}[p.Op], most, levels)
	}
	return p
}

func (h *heavy) leaf(most int) api.Pull {
	switch {
	case most < 2 || h.d.N(3) == 0:
		return sample.Number(h.d.N(5))
	case h.d.N(3) == 0:
		return api.Pull{Op: "linear", At: h.expressions(1, most-1)}
	}
	return api.Pull{Op: "read", Value: h.d.N(3), At: h.expressions(h.d.N(min(most, 7)), most-1)}
}

// steps returns scalar code of so many steps for some arguments.
func (h *heavy) steps(args, count int) []api.Step {
	var l []api.Step
	for k := range count {
		arg := func() int { return h.d.N(args + k) }
		step := api.Step{Op: sample.Pick(h.d, "and", "add", "select", "lt"), Args: []int{arg(), arg()}}
		if step.Op == "select" {
			step.Args = append(step.Args, arg())
		}
		l = append(l, sample.Pick(h.d, step, step, api.Step{Op: "const", Num: k}))
	}
	return l
}

// kernel returns a kernel of a value with some dimensions, which has a weight of at most 120.
func (h *heavy) kernel(value int, dims []api.Linear) api.Kernel {
	space := dims
	k := api.Kernel{Kind: 1 + h.d.N(3), Value: value, Source: 3}
	most := 120 - 5 - 2*len(dims) - 1
	switch k.Kind {
	case api.KernelScan:
		k.Fun = h.steps(2, 1+h.d.N(60))
		most -= len(k.Fun)
	case api.KernelUpdate:
		space, k.Check = dims[:len(dims)-1], 1+h.d.N(1000000)
	}
	k.Space = space
	h.vars = []string{"n"}
	for i := range space {
		h.vars = append(h.vars, fmt.Sprint("i", i))
	}
	if k.Kind == api.KernelUpdate {
		k.Index = h.pull(h.d.N(most), 12)
		k.Body = h.pull(most-weight(k.Index), 12)
	} else {
		k.Source = 0
		k.Body = h.pull(most, 12)
	}
	return k
}

func TestHeavy(t *testing.T) { // P54.1, P54.2
	d := sample.NewDice(27)
	heaviest, longest, regs := 0, 0, 0
	for i := range 2000 {
		k := api.Kernels{Vars: []string{"n"}, Inputs: 4, Results: []int{4}}
		own := sample.Pick(d, "[n, 2, 3]int", "[n]int", "[2, 1, 2, n, 1, 2]int")
		for _, s := range []string{"[n]int", "[n, 2]bool", "[2, n, 2]int", own, own} {
			k.Values = append(k.Values, sample.Type(s))
		}
		h := &heavy{d: d}
		k.List = []api.Kernel{h.kernel(4, k.Values[4].Shape.Dims)}
		if at, e := fuse.Valid(k); e != api.OK || compile.Weight(k) > 120 {
			t.Fatalf("%d: %d: %v", i, at, k.List)
		}
		dims := []api.Value{{Var: "n", N: sample.Pick(d, 0, 1, 3, 40, 512)}}
		p, e := plan.Make(k, dims)
		if e != api.OK {
			t.Fatalf("%d", e)
		}
		b, e := compile.Make(k, p, dims)
		if e != api.OK {
			t.Fatalf("%d: %v", e, k.List)
		}
		if at, e := verify.Verify(b); e != api.OK {
			text, _ := bytecode.Print(b.Ops)
			t.Fatalf("%s: %d", text, at)
		}
		heaviest, longest, regs = max(heaviest, compile.Weight(k)), max(longest, len(b.Ops)), max(regs, b.Regs)
	}
	if heaviest < 119 {
		t.Errorf("the weight %d", heaviest)
	}
	t.Logf("the weight %d, %d instructions, %d registers", heaviest, longest, regs)
}
