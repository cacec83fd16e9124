// Package sample writes flat programs and arrays for tests.
package sample

import (
	"slices"
	"strconv"
	"strings"

	"framewise/api"
	"framewise/array"
	"framewise/flat"
	"framewise/linear"
	"framewise/reduce"
	"framewise/types"
)

// Type returns the type with a text.
func Type(s string) api.Type {
	t, e := types.Parse(s)
	must(e, s)
	return t
}

// Linear returns the expression with a source.
func Linear(s string) api.Linear {
	l, e := linear.Parse(s)
	must(e, s)
	return l
}

// Linears returns the expressions with sources between spaces.
func Linears(s string) []api.Linear {
	var l []api.Linear
	for _, part := range strings.Fields(s) {
		l = append(l, Linear(part))
	}
	return l
}

// Arrays returns the arrays with texts.
func Arrays(texts ...string) []api.Array {
	var l []api.Array
	for _, s := range texts {
		a, e := array.Parse(s)
		must(e, s)
		l = append(l, a)
	}
	return l
}

// Values returns the values in a text like "m=1 n=3".
func Values(s string) []api.Value {
	var l []api.Value
	for _, part := range strings.Fields(s) {
		v, n, _ := strings.Cut(part, "=")
		l = append(l, api.Value{Var: v, N: number(n)})
	}
	return l
}

// Prim returns the scalar code of a primitive.
func Prim(op string) []api.Step {
	code, ok := reduce.Prim(op)
	if !ok {
		panic(op)
	}
	return code
}

// Instr parses an instruction: "op v0@0.1 v1 | frame | sizes", whose Fun is add if it has one.
func Instr(s string, change ...func(*api.Instr)) api.Instr {
	parts := append(strings.Split(s, "|"), "", "")
	words := strings.Fields(parts[0])
	in := api.Instr{Op: words[0], Frame: Linears(parts[1]), Sizes: Linears(parts[2])}
	for _, w := range words[1:] {
		v, axes, _ := strings.Cut(w[1:], "@")
		in.Args = append(in.Args, number(v))
		var l []int
		for _, x := range strings.FieldsFunc(axes, func(r rune) bool { return r == '.' }) {
			l = append(l, number(x))
		}
		in.Axes = append(in.Axes, l)
	}
	if in.Op == "fold" || in.Op == "scan" {
		in.Fun = Prim("add")
	}
	for _, f := range change {
		f(&in)
	}
	return in
}

// Const returns an instruction const of the array with a text.
func Const(s string) api.Instr { return api.Instr{Op: "const", Array: Arrays(s)[0]} }

// Check gives an instruction the number of a check.
func Check(n int) func(*api.Instr) { return func(in *api.Instr) { in.Check = n } }

// Num gives an instruction a literal number.
func Num(n int) func(*api.Instr) { return func(in *api.Instr) { in.Num = n } }

// Fun gives an instruction the scalar code of a primitive.
func Fun(op string) func(*api.Instr) { return func(in *api.Instr) { in.Fun = Prim(op) } }

// Program makes a program, whose instructions get their types; all conditions become elements of Where.
func Program(vars string, inputs []string, results []int, code ...api.Instr) api.Flat {
	f := api.Flat{Vars: strings.Fields(vars), Results: results}
	for _, s := range inputs {
		f.Inputs = append(f.Inputs, Type(s))
	}
	values := slices.Clone(f.Inputs)
	for _, in := range code {
		t, conds, e := flat.Infer(values, in)
		must(e, in.Op)
		in.Type = t
		for _, c := range conds {
			if n, ok := linear.Const(c); !ok || n < 0 {
				f.Where = append(f.Where, c)
			}
		}
		f.Code, values = append(f.Code, in), append(values, t)
	}
	return f
}

// must panics if there is an error.
func must(e api.Errno, s string) {
	if e != api.OK {
		panic(api.Name(e) + ": " + s)
	}
}

func number(s string) int {
	n, err := strconv.Atoi(s)
	if err != nil {
		panic(s)
	}
	return n
}
