package simplify_test

import (
	"fmt"
	"slices"
	"strings"
	"testing"

	"framewise/api"
	"framewise/flat"
	"framewise/poly"
	"framewise/prims"
	"framewise/proof"
	"framewise/rules"
	"framewise/sample"
	"framewise/simplify"
)

var in = sample.Instr

func lines(f api.Flat) string {
	l, e := flat.Print(f)
	if e != api.OK {
		return "error"
	}
	return strings.Join(l[len(f.Inputs):], "; ")
}

func TestRun(t *testing.T) { // P42.1
	lists := []string{"[n]int", "int", "[n, m]int"}
	for i, c := range []struct {
		code    []api.Instr
		results []int
		want    string
		proof   string
	}{
		{[]api.Instr{sample.Const("#[: 0]"), in("add v0@0 v3|n"), sample.Const("#[: 1]"), in("mul v4@0 v5|n")}, []int{6}, "result v0", "neutral 1 1, dead 1, dead 0, neutral 1 1, dead 1, dead 0"},
		{[]api.Instr{sample.Const("#[: 1]"), in("add v1 v3"), sample.Const("#[: 2]"), in("add v4 v5")}, []int{6}, "v3: int = const(); v4: int = add(v1, v3); result v4", "associate 3, dead 1, constant 2, dead 0, dead 0"},
		{[]api.Instr{in("neg v1"), in("add v3 v0@0|n")}, []int{4}, "v3: int = neg(v1); v4: [n]int = add(v0@0, v3); result v4", "order 1"},
		{[]api.Instr{in("neg v0@0|n"), in("reverse v3")}, []int{4}, "v3: [n]int = reverse(v0); v4: [n]int = neg(v3@0); result v4", "through 1, dead 0"},
		{[]api.Instr{in("neg v0@0|n"), in("reverse v3")}, []int{4, 3}, "v3: [n]int = neg(v0@0); v4: [n]int = reverse(v3); result v4, v3", ""},
		{[]api.Instr{in("mul v0@0 v0@0|n"), in("reverse v3")}, []int{4}, "v3: [n]int = mul(v0@0, v0@0); v4: [n]int = reverse(v3); result v4", ""},
		{[]api.Instr{in("fill v1||n"), in("add v0@0 v3@0|n")}, []int{4}, "v3: [n]int = fill(v1); v4: [n]int = add(v0@0, v3@0); result v4", ""},
		{[]api.Instr{in("fill v1||n"), in("neg v3@0|n")}, []int{4}, "v3: int = neg(v1); v4: [n]int = fill(v3); result v4", "fill 1, dead 0"},
		{[]api.Instr{in("fill v1||n"), in("neg v3@0|n")}, []int{4, 3}, "v3: [n]int = fill(v1); v4: [n]int = neg(v3@0); result v4, v3", ""},
		{[]api.Instr{in("fill v1||0"), in("abs v3@0|0")}, []int{4}, "v3: [0]int = fill(v1); v4: [0]int = abs(v3@0); result v4", ""},
		{[]api.Instr{in("fill v1||n"), in("add v3@0 v3@0|n")}, []int{4}, "v3: int = add(v1, v1); v4: [n]int = fill(v3); result v4", "fill 1, dead 0"},
		{[]api.Instr{in("fill v1||n"), in("add v3@0 v3@1|n n")}, []int{4}, "v3: [n]int = fill(v1); v4: [n, n]int = add(v3@0, v3@1); result v4", ""},
		{[]api.Instr{in("take v0||n"), in("drop v3||0"), in("reverse v4"), in("reverse v5")}, []int{6}, "result v0", "double 3, dead 3, dead 2, whole 0, dead 0, whole 0, dead 0"},
	} {
		f := sample.Program("m n", lists, c.results, c.code...)
		g, p, e := simplify.Run(f)
		text, _ := proof.Print(p)
		if lines(g) != c.want || strings.Join(text, ", ") != c.proof || e != api.OK {
			t.Errorf("%d: %s by %s", i, lines(g), strings.Join(text, ", "))
		}
	}
	if _, p, e := simplify.Run(api.Flat{}); p != nil || e != api.ErrCode {
		t.Errorf("%d", e)
	}
	if _, ok := simplify.Next(api.Flat{}); ok || simplify.Normal(api.Flat{}) || simplify.Permitted(api.Flat{}, api.Rewrite{Rule: 1}) {
		t.Error("a program that is not valid")
	}
}

func TestPermitted(t *testing.T) { // P42.1
	f := sample.Program("n", []string{"[n]int", "int"}, []int{5, 2}, in("neg v0@0|n"), in("reverse v2"), in("neg v1"), in("add v4 v0@0|n"))
	for i, c := range []struct {
		r    api.Rewrite
		want bool
	}{
		{api.Rewrite{Rule: rules.Through, At: 1}, false}, {api.Rewrite{Rule: rules.Order, At: 3}, true}, {api.Rewrite{Rule: rules.Order, At: 2}, false}, {api.Rewrite{Rule: rules.Dead, At: 1}, true}, {api.Rewrite{Rule: rules.Dead, At: 9}, false}, {api.Rewrite{}, false},
	} {
		if simplify.Permitted(f, c.r) != c.want {
			t.Errorf("%d", i)
		}
	}
	if r, ok := simplify.Next(f); !ok || r != (api.Rewrite{Rule: rules.Dead, At: 1}) {
		t.Errorf("%v", r)
	}
}

func TestLimit(t *testing.T) { // P42.4
	code := []api.Instr{in("neg v1")}
	for i := range 350 {
		code = append(code, in(fmt.Sprint("abs v", i+2)))
	}
	f := sample.Program("n", []string{"[n]int", "int"}, []int{0}, code...)
	g, p, e := simplify.Run(f)
	if len(p) != simplify.MaxSteps || len(g.Code) != 51 || e != api.OK || simplify.Normal(g) {
		t.Errorf("%d steps, %d instructions", len(p), len(g.Code))
	}
}

func outcome(results []api.Array, violated []int, e api.Errno) string {
	if e != api.OK {
		return api.Name(e)
	}
	return sample.Text(results) + fmt.Sprint(violated)
}

func TestRandom(t *testing.T) { // P42.2 to P42.6
	d := sample.NewDice(5)
	taken := 0
	for range 600 {
		f := sample.Flat(d, 10)
		g, p, e := simplify.Run(f)
		if proof.Check(f, g, p) != api.OK || e != api.OK {
			t.Fatalf("%s by %v", lines(f), p)
		}
		taken += len(p)
		h, q, _ := simplify.Run(g)
		if len(p) < simplify.MaxSteps && (!simplify.Normal(g) || len(q) != 0 || !flat.Equal(g, h)) {
			t.Fatalf("%s is not normal", lines(g))
		}
		for _, r := range p[:min(len(p), 1)] {
			if next, ok := simplify.Next(f); next != r || !ok || !simplify.Permitted(f, r) {
				t.Fatalf("%v, not %v", next, r)
			}
		}
		for range 4 {
			dims := sample.Dims(d, 3)
			inputs := sample.Inputs(d, f.Inputs, dims)
			a, b := outcome(flat.Run(f, dims, inputs)), outcome(flat.Run(g, dims, inputs))
			if a != b && a != "limit" && b != "limit" && a != "range" && b != "range" {
				t.Fatalf("%s: %s, then %s: %s", lines(f), a, lines(g), b)
			}
			v, e1 := flat.Work(f)
			w, e2 := flat.Work(g)
			x, _ := poly.Eval(v, dims)
			y, _ := poly.Eval(w, dims)
			if e1 == api.OK && e2 == api.OK && positive(f, dims) && y > x {
				t.Fatalf("%s: work %d, then %s: %d", lines(f), x, lines(g), y)
			}
		}
		uses := flat.Uses(g)
		for i, c := range g.Code {
			if uses[len(g.Inputs)+i] == 0 && c.Check == 0 {
				if _, e := rules.Apply(g, api.Rewrite{Rule: rules.Dead, At: i}); e == api.OK {
					t.Fatalf("%s has a dead instruction", lines(g))
				}
			}
			isConst := func(v int) bool { return v >= len(g.Inputs) && g.Code[v-len(g.Inputs)].Op == "const" }
			if sig, ok := prims.Sig(c.Op); ok && sig.Scalar && len(c.Frame) == 0 && !slices.ContainsFunc(c.Args, func(v int) bool { return !isConst(v) }) {
				t.Fatalf("%s has a constant", lines(g))
			}
			if slices.ContainsFunc(g.Code[:i], func(o api.Instr) bool { return flat.EqualInstr(o, c) }) {
				t.Fatalf("%s has equal instructions", lines(g))
			}
		}
	}
	if taken < 500 {
		t.Errorf("%d", taken)
	}
}

// positive reports whether all dimensions of all values are at least 1.
func positive(f api.Flat, dims []api.Value) bool {
	for _, ty := range flat.Types(f) {
		for _, d := range ty.Shape.Dims {
			p, _ := poly.Of(d)
			if n, _ := poly.Eval(p, dims); n < 1 {
				return false
			}
		}
	}
	return true
}
