package whole

import (
	"fmt"
	"math/rand"
	"slices"
	"testing"

	"framewise/api"
	"framewise/array"
	"framewise/bounds"
	"framewise/exec"
	"framewise/flat"
	"framewise/inline"
	"framewise/proof"
	"framewise/shape"
	"framewise/simplify"
)

// special is an instance of a definition: its ranks and element types, and the values of variables.
type special struct {
	ranks []int
	elems []string
	dims  map[string]int
}

// specialize returns the instance of a scheme for inputs, if its dimensions are those of arrays.
func specialize(s api.Scheme, inputs []api.Array) (special, bool) {
	binds, e := exec.Binds(s, inputs)
	if e != api.OK {
		return special{}, false
	}
	out := special{dims: map[string]int{}}
	for _, b := range binds {
		switch b.Kind {
		case api.DimVar:
			out.dims[b.Var] = b.Dim.Const
		case api.RowVar:
			for i, d := range b.Row.Dims {
				out.dims[fmt.Sprint(b.Var, "d", i+1)] = d.Const
			}
		}
	}
	// The rows and element variables of layer 39 come in the order of the scheme.
	rows, elems := map[string]int{}, map[string]string{}
	for _, b := range binds {
		if b.Kind == api.RowVar {
			rows[b.Var] = len(b.Row.Dims)
		}
		if b.Kind == api.ElemVar {
			elems[b.Var] = b.Elem
		}
	}
	for _, p := range append(slices.Clone(s.Params), s.Result) {
		for _, v := range shape.Vars(p.Shape) {
			if n, ok := rows[v.Var]; ok && v.Kind == api.RowVar {
				out.ranks = append(out.ranks, n)
				delete(rows, v.Var)
			}
		}
		if t, ok := elems[p.Elem]; ok {
			out.elems = append(out.elems, t)
			delete(elems, p.Elem)
		}
	}
	for _, n := range out.dims {
		if n < 0 || n > api.MaxDim {
			return special{}, false
		}
	}
	return out, true
}

// values returns the values of variables, in order.
func (s special) values(vars []string) []api.Value {
	var l []api.Value
	for _, v := range vars {
		l = append(l, api.Value{Var: v, N: s.dims[v]})
	}
	return l
}

// flattened is a run of a definition, and its flat program for the instance of its inputs.
type flattened struct {
	text     string
	list     []api.Typed
	def      api.Typed
	inputs   []api.Array
	out      api.Array
	violated []int
	special  special
	dims     []api.Value
	flat     api.Flat
}

// eachFlat calls f for runs without errors of the definitions of modules.
func eachFlat(t *testing.T, seed int64, count int, f func(c flattened)) {
	t.Helper()
	r := rand.New(rand.NewSource(seed))
	for _, text := range texts(seed, count) {
		_, l := typed(t, text)
		bounded, e := bounds.Bound(l)
		if e != api.OK {
			t.Fatalf("%s: %d", text, e)
		}
		for _, d := range bounded {
			in, ok := inputs(r, d.Scheme)
			if !ok {
				continue
			}
			out, violated, e := exec.Run(bounded, d.Name, in)
			s, isArray := specialize(d.Scheme, in)
			if e != api.OK || !isArray {
				continue
			}
			p, e := inline.Flatten(bounded, d.Name, s.ranks, s.elems)
			if e != api.OK {
				if e != api.ErrLimit {
					t.Fatalf("%s: %s: %d", text, d.Name, e)
				}
				continue
			}
			f(flattened{text, bounded, d, in, out, violated, s, s.values(p.Vars), p})
		}
	}
}

func TestFlat(t *testing.T) { // P39.2, W6
	compared, steps := 0, 0
	eachFlat(t, 7, 300, func(c flattened) {
		if at, e := flat.Valid(c.flat); e != api.OK {
			t.Fatalf("%s: %s: instruction %d", c.text, c.def.Name, at)
		}
		_, p, e := simplify.Run(c.flat)
		trace, f := proof.Trace(c.flat, p)
		if e != api.OK || f != api.OK {
			t.Fatalf("%s: %s: %d %d", c.text, c.def.Name, e, f)
		}
		for _, g := range trace {
			got, violated, e := flat.Run(g, c.dims, c.inputs)
			if !flat.Holds(g.Where, c.dims) {
				t.Fatalf("%s: %s of %v: a condition does not hold", c.text, c.def.Name, c.inputs)
			}
			if e == api.ErrLimit || e == api.ErrRange {
				continue
			}
			compared++
			if e != api.OK || !array.Equal(got[0], c.out) || !slices.Equal(violated, c.violated) {
				t.Fatalf("%s: %s of %v: %v %v %d, not %v %v", c.text, c.def.Name, c.inputs, got, violated, e, c.out, c.violated)
			}
		}
		steps += len(p)
	})
	t.Logf("%d programs, %d steps", compared, steps)
	if compared < 1000 || steps < 500 {
		t.Errorf("%d programs, %d steps", compared, steps)
	}
}
