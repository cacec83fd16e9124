package rules_test

import (
	"fmt"
	"slices"
	"strings"
	"testing"

	"framewise/api"
	"framewise/clone"
	"framewise/flat"
	"framewise/poly"
	"framewise/rules"
	"framewise/sample"
	"framewise/types"
)

var (
	in      = sample.Instr
	program = sample.Program
)

// code writes the instructions and the results of a program, with the arrays of constants and the sizes.
func code(f api.Flat) string {
	if _, e := flat.Valid(f); e != api.OK {
		return "error"
	}
	var parts []string
	for i, c := range f.Code {
		s := fmt.Sprint("v", len(f.Inputs)+i, " ", c.Op)
		if c.Op == "const" {
			s += strings.TrimRight(sample.Text([]api.Array{c.Array}), " ")
		}
		for j, a := range c.Args {
			s += fmt.Sprint(" v", a)
			if len(c.Axes[j]) > 0 {
				s += "@" + strings.Trim(strings.ReplaceAll(fmt.Sprint(c.Axes[j]), " ", "."), "[]")
			}
		}
		t, _ := types.Print(api.Type{Elem: "int", Shape: api.Shape{Dims: c.Frame}})
		s += " |" + t[:len(t)-3]
		t, _ = types.Print(api.Type{Elem: "int", Shape: api.Shape{Dims: c.Sizes}})
		parts = append(parts, s+"|"+t[:len(t)-3])
	}
	return strings.Join(parts, "; ") + "; " + fmt.Sprint(f.Results)
}

func TestRules(t *testing.T) { // P40.1
	lists := []string{"[n]int", "int", "[n, m]int", "[n, m]bool", "[4]int"}
	for i, c := range []struct {
		code    []api.Instr
		results []int
		r       api.Rewrite
		want    string
	}{
		{[]api.Instr{in("neg v1"), in("abs v1")}, []int{6}, api.Rewrite{Rule: rules.Dead, At: 0}, "v5 abs v1 ||; [5]"},
		{[]api.Instr{in("neg v1"), in("abs v1")}, []int{6}, api.Rewrite{Rule: rules.Dead, At: 1}, "rule"},
		{[]api.Instr{in("neg v1"), in("abs v5")}, []int{1}, api.Rewrite{Rule: rules.Dead, At: 0}, "rule"},
		{[]api.Instr{in("index v0 v1", sample.Check(1)), in("abs v1")}, []int{6}, api.Rewrite{Rule: rules.Dead, At: 0}, "rule"},
		{[]api.Instr{in("index v0 v1"), in("abs v1")}, []int{6}, api.Rewrite{Rule: rules.Dead, At: 0}, "v5 abs v1 ||; [5]"},
		{[]api.Instr{in("neg v1"), in("abs v1")}, []int{6}, api.Rewrite{Rule: rules.Dead, At: 0, Arg: 1}, "rule"},
		{[]api.Instr{in("neg v1"), in("neg v1"), in("add v5 v6")}, []int{7, 6}, api.Rewrite{Rule: rules.Common, At: 1}, "v5 neg v1 ||; v6 add v5 v5 ||; [6 5]"},
		{[]api.Instr{in("neg v1"), in("abs v1"), in("neg v1")}, []int{7}, api.Rewrite{Rule: rules.Common, At: 2, Arg: 1}, "rule"},
		{[]api.Instr{in("neg v1"), in("abs v1"), in("neg v1")}, []int{7}, api.Rewrite{Rule: rules.Common, At: 2, Arg: 2}, "rule"},
		{[]api.Instr{in("neg v1"), in("abs v1"), in("neg v1")}, []int{7}, api.Rewrite{Rule: rules.Common, At: 2, Arg: -1}, "rule"},
		{[]api.Instr{in("index v0 v1", sample.Check(1)), in("index v0 v1", sample.Check(2))}, []int{6}, api.Rewrite{Rule: rules.Common, At: 1}, "rule"},
		{[]api.Instr{sample.Const("#[: 2]"), in("iota ||3"), in("add v6@0 v5|3")}, []int{7}, api.Rewrite{Rule: rules.Constant, At: 1}, "v5 const#[: 2] ||; v6 const#[3: 0 1 2] ||; v7 add v6@0 v5 |[3]|; [7]"},
		{[]api.Instr{sample.Const("#[: 2]"), sample.Const("#[2: 1 5]"), in("add v6@0 v5|2")}, []int{7}, api.Rewrite{Rule: rules.Constant, At: 2}, "v5 const#[: 2] ||; v6 const#[2: 1 5] ||; v7 const#[2: 3 7] ||; [7]"},
		{[]api.Instr{in("iota ||64")}, []int{5}, api.Rewrite{Rule: rules.Constant}, "v5 const#[64:" + numbers(64) + "] ||; [5]"}, {[]api.Instr{in("iota ||65")}, []int{5}, api.Rewrite{Rule: rules.Constant}, "rule"}, {[]api.Instr{in("iota ||n")}, []int{5}, api.Rewrite{Rule: rules.Constant}, "rule"}, {[]api.Instr{in("neg v1")}, []int{5}, api.Rewrite{Rule: rules.Constant}, "rule"}, {[]api.Instr{sample.Const("#[: 1]")}, []int{5}, api.Rewrite{Rule: rules.Constant}, "rule"}, {[]api.Instr{in("size |n|2")}, []int{5}, api.Rewrite{Rule: rules.Constant}, "rule"}, {[]api.Instr{in("size |2|7")}, []int{5}, api.Rewrite{Rule: rules.Constant}, "v5 const#[2: 7 7] ||; [5]"}, {[]api.Instr{in("iota |0|5000")}, []int{5}, api.Rewrite{Rule: rules.Constant}, "rule"},
		{[]api.Instr{sample.Const("#[2: 1 2]"), sample.Const("#[: 5]"), in("index v5 v6", sample.Check(1))}, []int{7}, api.Rewrite{Rule: rules.Constant, At: 2}, "rule"}, {[]api.Instr{sample.Const("#[2: 1 2]"), sample.Const("#[: 5]"), in("index v5 v6")}, []int{7}, api.Rewrite{Rule: rules.Constant, At: 2}, "v5 const#[2: 1 2] ||; v6 const#[: 5] ||; v7 const#[: 0] ||; [7]"},
		{[]api.Instr{sample.Const("#[: 0]"), in("add v0@0 v5|n")}, []int{6}, api.Rewrite{Rule: rules.Neutral, At: 1, Arg: 1}, "v5 const#[: 0] ||; v6 add v0@0 v5 |[n]|; [0]"}, {[]api.Instr{sample.Const("#[: 0]"), in("add v5 v0@0|n")}, []int{6}, api.Rewrite{Rule: rules.Neutral, At: 1}, "v5 const#[: 0] ||; v6 add v5 v0@0 |[n]|; [0]"}, {[]api.Instr{sample.Const("#[: 0]"), in("add v0@0 v5|n")}, []int{6}, api.Rewrite{Rule: rules.Neutral, At: 1}, "rule"}, {[]api.Instr{sample.Const("#[: 0]"), in("add v5 v1")}, []int{6}, api.Rewrite{Rule: rules.Neutral, At: 1}, "v5 const#[: 0] ||; v6 add v5 v1 ||; [1]"}, {[]api.Instr{sample.Const("#[: 0]"), in("sub v1 v5")}, []int{6}, api.Rewrite{Rule: rules.Neutral, At: 1, Arg: 1}, "rule"}, {[]api.Instr{sample.Const("#[: 1]"), in("add v1 v5")}, []int{6}, api.Rewrite{Rule: rules.Neutral, At: 1, Arg: 1}, "rule"}, {[]api.Instr{sample.Const("#[4: 1 1 1 1]"), in("mul v5@0 v4@0|4")}, []int{6}, api.Rewrite{Rule: rules.Neutral, At: 1}, "v5 const#[4: 1 1 1 1] ||; v6 mul v5@0 v4@0 |[4]|; [4]"}, {[]api.Instr{sample.Const("#[4: 1 1 1 1]"), in("mul v5@0 v1|4")}, []int{6}, api.Rewrite{Rule: rules.Neutral, At: 1}, "rule"}, {[]api.Instr{sample.Const("#[0:]"), in("mul v5@0 v5@0|0")}, []int{6}, api.Rewrite{Rule: rules.Neutral, At: 1}, "rule"}, {[]api.Instr{sample.Const("#[: 0]"), in("add v0@0 v5|n")}, []int{6}, api.Rewrite{Rule: rules.Neutral, At: 1, Arg: 2}, "rule"},
		{[]api.Instr{sample.Const("#[: 0]"), in("mul v0@0 v5|n")}, []int{6}, api.Rewrite{Rule: rules.Absorbing, At: 1, Arg: 1}, "v5 const#[: 0] ||; v6 mul v5 v5 |[n]|; [6]"}, {[]api.Instr{sample.Const("#[: 0]"), in("mul v5 v5|n")}, []int{6}, api.Rewrite{Rule: rules.Absorbing, At: 1, Arg: 1}, "rule"}, {[]api.Instr{sample.Const("#[2: 0 0]"), in("mul v5@1 v5@0|2 2")}, []int{6}, api.Rewrite{Rule: rules.Absorbing, At: 1}, "v5 const#[2: 0 0] ||; v6 mul v5@1 v5@1 |[2, 2]|; [6]"}, {[]api.Instr{sample.Const("#b[: 1]"), in("or v5 v3@0.1|n m")}, []int{6}, api.Rewrite{Rule: rules.Absorbing, At: 1}, "v5 const#b[: 1] ||; v6 or v5 v5 |[n, m]|; [6]"}, {[]api.Instr{sample.Const("#[: 0]"), in("add v5 v1")}, []int{6}, api.Rewrite{Rule: rules.Absorbing, At: 1}, "rule"},
		{[]api.Instr{in("min v0@0 v0@0|n")}, []int{5}, api.Rewrite{Rule: rules.Idempotent}, "v5 min v0@0 v0@0 |[n]|; [0]"}, {[]api.Instr{in("min v1 v1|n")}, []int{5}, api.Rewrite{Rule: rules.Idempotent}, "rule"}, {[]api.Instr{in("add v1 v1")}, []int{5}, api.Rewrite{Rule: rules.Idempotent}, "rule"}, {[]api.Instr{in("min v1 v1")}, []int{5}, api.Rewrite{Rule: rules.Idempotent}, "v5 min v1 v1 ||; [1]"},
		{[]api.Instr{in("add v1 v0@0|n")}, []int{5}, api.Rewrite{Rule: rules.Order}, "v5 add v0@0 v1 |[n]|; [5]"}, {[]api.Instr{in("neg v1"), in("add v5 v0@0|n")}, []int{6}, api.Rewrite{Rule: rules.Order, At: 1}, "v5 neg v1 ||; v6 add v0@0 v5 |[n]|; [6]"}, {[]api.Instr{in("add v0@1 v0@0|n n")}, []int{5}, api.Rewrite{Rule: rules.Order}, "v5 add v0@0 v0@1 |[n, n]|; [5]"}, {[]api.Instr{in("add v0@0 v0@1|n n")}, []int{5}, api.Rewrite{Rule: rules.Order}, "rule"}, {[]api.Instr{in("sub v1 v0@0|n")}, []int{5}, api.Rewrite{Rule: rules.Order}, "rule"},
		{[]api.Instr{sample.Const("#[: 1]"), sample.Const("#[: 2]"), in("add v0@0 v5|n"), in("add v7@0 v6|n"), in("neg v8@0|n")}, []int{9}, api.Rewrite{Rule: rules.Associate, At: 3}, "v5 const#[: 1] ||; v6 const#[: 2] ||; v7 add v0@0 v5 |[n]|; v8 add v5 v6 ||; v9 add v0@0 v8 |[n]|; v10 neg v9@0 |[n]|; [10]"}, {[]api.Instr{sample.Const("#[: 1]"), sample.Const("#[: 2]"), in("add v1 v5|n"), in("add v7@0 v6|n")}, []int{8}, api.Rewrite{Rule: rules.Associate, At: 3}, "v5 const#[: 1] ||; v6 const#[: 2] ||; v7 add v1 v5 |[n]|; v8 add v5 v6 ||; v9 add v1 v8 |[n]|; [9]"}, {[]api.Instr{sample.Const("#[: 1]"), sample.Const("#[: 2]"), in("mul v0@0 v5|n"), in("add v7@0 v6|n")}, []int{8}, api.Rewrite{Rule: rules.Associate, At: 3}, "rule"}, {[]api.Instr{sample.Const("#[: 1]"), in("add v1 v5"), in("add v6 v1")}, []int{7}, api.Rewrite{Rule: rules.Associate, At: 2}, "rule"}, {[]api.Instr{sample.Const("#[: 1]"), in("sub v1 v5"), in("sub v6 v5")}, []int{7}, api.Rewrite{Rule: rules.Associate, At: 2}, "rule"},
		{[]api.Instr{in("neg v0@0|n"), in("neg v5@0|n")}, []int{6}, api.Rewrite{Rule: rules.Double, At: 1}, "v5 neg v0@0 |[n]|; v6 neg v5@0 |[n]|; [0]"}, {[]api.Instr{in("transpose v2"), in("transpose v5")}, []int{6}, api.Rewrite{Rule: rules.Double, At: 1}, "v5 transpose v2 ||; v6 transpose v5 ||; [2]"}, {[]api.Instr{in("reverse v2@0|n"), in("reverse v5@0|n")}, []int{6}, api.Rewrite{Rule: rules.Double, At: 1}, "v5 reverse v2@0 |[n]|; v6 reverse v5@0 |[n]|; [2]"}, {[]api.Instr{in("neg v1|n"), in("neg v5@0|n")}, []int{6}, api.Rewrite{Rule: rules.Double, At: 1}, "rule"}, {[]api.Instr{in("abs v1"), in("abs v5")}, []int{6}, api.Rewrite{Rule: rules.Double, At: 1}, "rule"}, {[]api.Instr{in("neg v1"), in("neg v5|n")}, []int{6}, api.Rewrite{Rule: rules.Double, At: 1}, "rule"},
		{[]api.Instr{in("take v4||3"), in("take v5||2")}, []int{6}, api.Rewrite{Rule: rules.Take, At: 1}, "v5 take v4 ||[3]; v6 take v4 ||[2]; [6]"}, {[]api.Instr{in("take v2@0|n|3"), in("take v5@0|n|2")}, []int{6}, api.Rewrite{Rule: rules.Take, At: 1}, "rule"}, {[]api.Instr{in("take v4||3"), in("drop v5||2")}, []int{6}, api.Rewrite{Rule: rules.Take, At: 1}, "rule"}, {[]api.Instr{in("drop v4||1"), in("drop v5||2")}, []int{6}, api.Rewrite{Rule: rules.Drop, At: 1}, "v5 drop v4 ||[1]; v6 drop v4 ||[3]; [6]"}, {[]api.Instr{in("drop v4||1"), in("take v5||2")}, []int{6}, api.Rewrite{Rule: rules.Drop, At: 1}, "rule"},
		{[]api.Instr{in("take v0||n")}, []int{5}, api.Rewrite{Rule: rules.Whole}, "v5 take v0 ||[n]; [0]"}, {[]api.Instr{in("drop v2@0|n|0")}, []int{5}, api.Rewrite{Rule: rules.Whole}, "v5 drop v2@0 |[n]|[0]; [2]"}, {[]api.Instr{in("take v4||3")}, []int{5}, api.Rewrite{Rule: rules.Whole}, "rule"}, {[]api.Instr{in("take v0|m|n")}, []int{5}, api.Rewrite{Rule: rules.Whole}, "rule"}, {[]api.Instr{in("windows v0||n")}, []int{5}, api.Rewrite{Rule: rules.Whole}, "rule"},
		{[]api.Instr{in("add v0@0 v1|n"), in("reverse v5")}, []int{6}, api.Rewrite{Rule: rules.Through, At: 1}, "v5 add v0@0 v1 |[n]|; v6 reverse v0 ||; v7 add v6@0 v1 |[n]|; [7]"}, {[]api.Instr{in("add v2@0.1 v2@0.1|n m"), in("transpose v5"), in("neg v6@0.1|m n")}, []int{7}, api.Rewrite{Rule: rules.Through, At: 1}, "v5 add v2@0.1 v2@0.1 |[n, m]|; v6 transpose v2 ||; v7 transpose v2 ||; v8 add v6@0.1 v7@0.1 |[m, n]|; v9 neg v8@0.1 |[m, n]|; [9]"}, {[]api.Instr{in("add v2@0.1 v0@0|n m"), in("reverse v5@0|n")}, []int{6}, api.Rewrite{Rule: rules.Through, At: 1}, "rule"}, {[]api.Instr{in("add v2@0.1 v1|n m"), in("take v5@0|n|m")}, []int{6}, api.Rewrite{Rule: rules.Through, At: 1}, "v5 add v2@0.1 v1 |[n, m]|; v6 take v2@0 |[n]|[m]; v7 add v6@0.1 v1 |[n, m]|; [7]"}, {[]api.Instr{in("add v1 v1|n"), in("reverse v5")}, []int{6}, api.Rewrite{Rule: rules.Through, At: 1}, "rule"}, {[]api.Instr{in("neg v0@0|n"), in("windows v5||n")}, []int{6}, api.Rewrite{Rule: rules.Through, At: 1}, "rule"}, {[]api.Instr{in("neg v4@0|4"), in("chunk v5", sample.Num(2))}, []int{6}, api.Rewrite{Rule: rules.Through, At: 1}, "v5 neg v4@0 |[4]|; v6 chunk v4 ||; v7 neg v6@0.1 |[2, 2]|; [7]"},
		{[]api.Instr{in("fill v0@0|n|m"), in("add v5@0.1 v1|n m")}, []int{6}, api.Rewrite{Rule: rules.Fill, At: 1}, "v5 fill v0@0 |[n]|[m]; v6 add v0@0 v1 |[n]|; v7 fill v6@0 |[n]|[m]; [7]"}, {[]api.Instr{in("fill v1||n"), in("add v5@1 v0@0|n n")}, []int{6}, api.Rewrite{Rule: rules.Fill, At: 1}, "v5 fill v1 ||[n]; v6 add v1 v0@0 |[n]|; v7 fill v6@0 |[n]|[n]; [7]"}, {[]api.Instr{in("fill v1||n"), in("add v5@0 v0@0|n")}, []int{6}, api.Rewrite{Rule: rules.Fill, At: 1}, "rule"}, {[]api.Instr{in("fill v1||n"), in("neg v1")}, []int{6}, api.Rewrite{Rule: rules.Fill, At: 1}, "rule"}, {[]api.Instr{in("fill v1||n"), in("neg v1|n")}, []int{6}, api.Rewrite{Rule: rules.Fill, At: 1}, "rule"}, {[]api.Instr{in("fill v1||n"), in("add v5@0 v5@0|n")}, []int{6}, api.Rewrite{Rule: rules.Fill, At: 1}, "v5 fill v1 ||[n]; v6 add v1 v1 ||; v7 fill v6 ||[n]; [7]"},
		{[]api.Instr{sample.Const("#b[: 1]"), in("select v5 v0@0 v1|n")}, []int{6}, api.Rewrite{Rule: rules.Choice, At: 1}, "v5 const#b[: 1] ||; v6 select v5 v0@0 v1 |[n]|; [0]"}, {[]api.Instr{sample.Const("#b[: 0]"), in("select v5 v1 v0@0|n")}, []int{6}, api.Rewrite{Rule: rules.Choice, At: 1}, "v5 const#b[: 0] ||; v6 select v5 v1 v0@0 |[n]|; [0]"}, {[]api.Instr{sample.Const("#b[: 0]"), in("select v5 v0@0 v1|n")}, []int{6}, api.Rewrite{Rule: rules.Choice, At: 1}, "rule"}, {[]api.Instr{sample.Const("#b[4: 1 1 0 1]"), in("select v5@0 v4@0 v1|4")}, []int{6}, api.Rewrite{Rule: rules.Choice, At: 1}, "rule"},
	} {
		f := program("m n", lists, c.results, c.code...)
		g, e := rules.Apply(f, c.r)
		got := code(g)
		if e != api.OK {
			got = api.Name(e)
		}
		if got != c.want {
			t.Errorf("%d: %s, not %s", i, got, c.want)
		}
	}
}

func numbers(n int) string {
	s := ""
	for i := range n {
		s += fmt.Sprint(" ", i)
	}
	return s
}

func TestErrors(t *testing.T) { // P40.1
	f := program("n", []string{"[n]int"}, []int{1}, in("neg v0@0|n"))
	for i, c := range []struct {
		f api.Flat
		r api.Rewrite
		e api.Errno
	}{
		{api.Flat{}, api.Rewrite{}, api.ErrCode}, {f, api.Rewrite{}, api.ErrNone}, {f, api.Rewrite{Rule: 16}, api.ErrNone}, {f, api.Rewrite{Rule: 1, At: -1}, api.ErrNone}, {f, api.Rewrite{Rule: 1, At: 1}, api.ErrNone}, {f, api.Rewrite{Rule: 1, At: 0}, api.ErrRule}, {f, api.Rewrite{Rule: rules.Common}, api.ErrRule},
	} {
		if g, e := rules.Apply(c.f, c.r); e != c.e || g.Results != nil {
			t.Errorf("%d: %d", i, e)
		}
	}
	if rules.All(api.Flat{}) != nil {
		t.Error("All")
	}
	for n, want := range map[int]string{0: "", 1: "dead", 2: "common", 3: "constant", 4: "neutral", 5: "absorbing", 6: "idempotent", 7: "order", 8: "associate", 9: "double", 10: "take", 11: "drop", 12: "whole", 13: "through", 14: "fill", 15: "choice", 16: "", -1: ""} {
		if s, ok := rules.Name(n); s != want || ok != (want != "") {
			t.Errorf("%d: %s", n, s)
		}
	}
	// Without the value, a condition would not be known to hold.
	f = program("n", []string{"[n]int"}, []int{2}, in("append v0 v0"), in("iota ||2n"))
	f.Where = nil
	if _, e := flat.Valid(f); e != api.OK {
		t.Fatal(e)
	}
	if _, e := rules.Apply(f, api.Rewrite{Rule: rules.Dead}); e != api.ErrRule {
		t.Errorf("%d", e)
	}
}

func TestAll(t *testing.T) { // P40.1
	f := program("n", []string{"[n]int", "int"}, []int{5}, sample.Const("#[: 0]"), in("add v0@0 v2|n"), in("add v0@0 v2|n"), in("mul v3@0 v4@0|n"))
	want := []api.Rewrite{{Rule: rules.Neutral, At: 1, Arg: 1}, {Rule: rules.Common, At: 2, Arg: 1}, {Rule: rules.Neutral, At: 2, Arg: 1}}
	if got := rules.All(f); !slices.Equal(got, want) {
		t.Errorf("%v", got)
	}
}

func outcome(results []api.Array, violated []int, e api.Errno) string {
	if e != api.OK {
		return api.Name(e)
	}
	return sample.Text(results) + fmt.Sprint(violated)
}

func TestRandom(t *testing.T) { // P40.2, P40.3, P40.4, P40.5
	d := sample.NewDice(1)
	used := map[int]int{}
	for range 800 {
		f := sample.Flat(d, 8)
		before := clone.Flat(f)
		all := rules.All(f)
		if !flat.Equal(f, before) {
			t.Fatal("the program was changed")
		}
		for range min(len(all), 4) {
			r := all[d.N(len(all))]
			used[r.Rule]++
			g, e := rules.Apply(f, r)
			if _, h := flat.Valid(g); e != api.OK || h != api.OK {
				t.Fatalf("%v: %d %d", r, e, h)
			}
			if !slices.Equal(f.Vars, g.Vars) || len(f.Where) != len(g.Where) || !slices.EqualFunc(f.Inputs, g.Inputs, types.Equal) {
				t.Fatalf("%v", r)
			}
			for i := range f.Results {
				if !types.Equal(flat.Types(f)[f.Results[i]], flat.Types(g)[g.Results[i]]) {
					t.Fatalf("%v: results", r)
				}
			}
			if a, b := checks(f), checks(g); r.Rule != rules.Common && !slices.Equal(a, b) || r.Rule == rules.Common && !slices.Equal(slices.Compact(a), slices.Compact(b)) {
				t.Fatalf("%v: checks %v, then %v", r, a, b)
			}
			for range 5 {
				dims := sample.Dims(d, 3)
				inputs := sample.Inputs(d, f.Inputs, dims)
				a, b := outcome(flat.Run(f, dims, inputs)), outcome(flat.Run(g, dims, inputs))
				if a != b && a != "limit" && b != "limit" && a != "range" && b != "range" {
					t.Fatalf("%v of %s: %s, then %s", r, code(f), a, b)
				}
				p, e := flat.Work(f)
				q, h := flat.Work(g)
				x, _ := poly.Eval(p, dims)
				y, _ := poly.Eval(q, dims)
				isLess := r.Rule <= rules.Order || r.Rule >= rules.Double && r.Rule <= rules.Whole || r.Rule == rules.Choice
				if isLess && e == api.OK && h == api.OK && a != "limit" && a != "range" && y > x {
					t.Fatalf("%v of %s: work %d, then %d", r, code(f), x, y)
				}
			}
		}
	}
	for rule := rules.Dead; rule <= rules.Choice; rule++ {
		if name, _ := rules.Name(rule); used[rule] == 0 && rule != rules.Choice && rule != rules.Associate {
			t.Errorf("%s was never used", name)
		}
	}
}

// checks returns the numbers of all checks of a program, ascending.
func checks(f api.Flat) []int {
	var l []int
	for _, c := range f.Code {
		if c.Check != 0 {
			l = append(l, c.Check)
		}
	}
	slices.Sort(l)
	return l
}
