package sample

import (
	"slices"

	"framewise/api"
	"framewise/array"
	"framewise/flat"
	"framewise/linear"
	"framewise/types"
)

// Dice throws numbers: always the same ones from the same beginning on.
type Dice struct{ state uint64 }

// NewDice returns dice with a beginning.
func NewDice(begin int) *Dice { return &Dice{uint64(begin)*2654435761 + 1} }

// N returns a number from 0 to n - 1.
func (d *Dice) N(n int) int {
	d.state = d.state*6364136223846793005 + 1442695040888963407
	return int(d.state >> 33 % uint64(n))
}

// Pick returns an element of a list.
func Pick[T any](d *Dice, l ...T) T { return l[d.N(len(l))] }

// lines are instructions for the inputs of random programs.
func lines() []string {
	return []string{
		"add v0@0 v2|n", "sub v4@0.1 v1@1|n m", "mul v0@0 v2|n", "min v0@0 v0@0|n", "add v2 v0@0|n", "fold v2 v0", "fold v2 v4@0|n", "scan v4@0|n", "scan v0", "reverse v0", "reverse v4@0|n", "transpose v4", "append v0 v1", "iota ||n", "fill v2||m", "fill v0@0|n|m", "index v0 v2", "index v4@0 v0@0|n", "update v0 v2 v2", "lt v0@0 v2|n", "eq v0@0 v0@0|n", "and v3 v3", "not v3", "select v3 v0@0 v2|n", "size ||n+m", "pack v2 v0@0|n", "take v0||n", "take v0||0", "drop v0||0", "windows v0||n", "neg v2", "neg v0@0|n", "const", "const 0", "const 1", "const 00", "diagonal v5", "fill v2||3", "add v0@0 v1@1|n m", "max v4@0.1 v2|n m", "update v4@0 v0@0 v0@0|n",
	}
}

// Flat returns a random program with the variables m and n, all of whose conditions hold.
func Flat(d *Dice, most int) api.Flat {
	f := Program("m n", []string{"[n]int", "[m]int", "int", "bool", "[n, m]int", "[n, n]int"}, []int{0})
	for range 1 + d.N(most) {
		values := flat.Types(f)
		in := random(d, values)
		t, conds, e := flat.Infer(values, in)
		must(e, in.Op)
		in.Type = t
		f.Where = append(f.Where, conds...)
		f.Code = append(f.Code, in)
	}
	last := len(f.Inputs) + len(f.Code) - 1
	f.Results = []int{last, d.N(last + 1)}
	if d.N(2) == 0 {
		f.Results = f.Results[:1]
	}
	return f
}

// random returns an instruction, whose arguments may be any values of their types.
func random(d *Dice, values []api.Type) api.Instr {
	line := Pick(d, lines()...)
	switch line {
	case "const":
		return Const("#[2: 3 4]")
	case "const 0":
		return Const("#[: 0]")
	case "const 1":
		return Const("#[: 1]")
	case "const 00":
		return Const("#[2: 0 0]")
	}
	in := Instr(line)
	if in.Op == "index" || in.Op == "update" {
		in.Check = d.N(4)
	}
	if in.Op == "fold" || in.Op == "scan" {
		in.Fun = Prim(Pick(d, "add", "sub", "max"))
	}
	for i, a := range in.Args {
		for v, t := range values {
			if types.Equal(t, values[a]) && d.N(3) > 0 {
				in.Args[i] = v
			}
		}
	}
	return in
}

// Inputs returns random inputs for given dimensions.
func Inputs(d *Dice, inputs []api.Type, dims []api.Value) []api.Array {
	var l []api.Array
	for _, t := range inputs {
		a := api.Array{Elem: t.Elem}
		for _, x := range t.Shape.Dims {
			n, e := linear.Eval(x, dims)
			must(e, "")
			a.Dims = append(a.Dims, n)
		}
		size, e := array.Size(a.Dims)
		must(e, "")
		for range size {
			a.Data = append(a.Data, Pick(d, d.N(2), d.N(7)-2)*d.N(2))
		}
		if t.Elem == api.Bool {
			for i := range a.Data {
				a.Data[i] &= 1
			}
		}
		l = append(l, a)
	}
	return l
}

// Dims returns values of m and n, up to a number.
func Dims(d *Dice, most int) []api.Value {
	return []api.Value{{Var: "m", N: d.N(most + 1)}, {Var: "n", N: d.N(most + 1)}}
}

// Text returns the texts of arrays, one behind the other.
func Text(l []api.Array) string {
	s := ""
	for _, a := range l {
		text, e := array.Print(a)
		must(e, a.Elem)
		s += text + " "
	}
	return s
}

// Without returns a list without an element.
func Without[T any](l []T, at int) []T { return slices.Concat(l[:at], l[at+1:]) }
