// Package whole has tests of the promises that concern several layers.
package whole

import (
	"fmt"
	"math/rand"
	"strings"

	"framewise/api"
	"framewise/parser"
	"framewise/resolve"
)

// want is the type of an expression that is to be written: its element type and its dimensions.
type want struct {
	elem string
	dims []string
}

func (w want) String() string {
	if len(w.dims) == 0 {
		return w.elem
	}
	return "[" + strings.Join(w.dims, ", ") + "]" + w.elem
}

// writer writes random expressions. Variables and definitions have their types.
type writer struct {
	r     *rand.Rand
	vars  []string
	types []want
	defs  []string
	needs [][]want
	gives []want
	lets  int
}

func (w *writer) choose(l ...string) string { return l[w.r.Intn(len(l))] }

// leaf writes an expression without others in it.
func (w *writer) leaf(t want) string {
	var fits []string
	for i, v := range w.types {
		if fmt.Sprint(v) == fmt.Sprint(t) {
			fits = append(fits, w.vars[i])
		}
	}
	if len(fits) > 0 && w.r.Intn(5) > 0 {
		return w.choose(fits...)
	}
	switch {
	case len(t.dims) == 0 && t.elem == "bool":
		return w.choose("true", "false")
	case len(t.dims) == 0:
		return w.choose("0", "1", "2", "-3", "7", "2147483647", "size[n]")
	case len(t.dims) == 1 && t.elem == "int" && w.r.Intn(2) == 0:
		return "iota[" + t.dims[0] + "]()"
	}
	return "fill[" + t.dims[len(t.dims)-1] + "](" + w.leaf(want{t.elem, t.dims[:len(t.dims)-1]}) + ")"
}

// expr writes an expression of a type, of at most so many levels.
func (w *writer) expr(t want, depth int) string {
	if depth == 0 {
		return w.leaf(t)
	}
	sub := func(elem string, dims ...string) string { return w.expr(want{elem, dims}, depth-1) }
	scalarOr := func(elem string) string {
		if w.r.Intn(3) == 0 {
			return sub(elem)
		}
		return sub(elem, t.dims...)
	}
	n := len(t.dims)
	switch k := w.r.Intn(12); {
	case k < 3 && t.elem == "int":
		return "(" + scalarOr("int") + w.choose(" + ", " - ", " * ", " / ", " % ") + sub("int", t.dims...) + ")"
	case k < 3:
		return "(" + scalarOr("int") + w.choose(" < ", " <= ", " == ", " != ", " > ") + sub("int", t.dims...) + ")"
	case k == 3 && t.elem == "int":
		return w.choose("neg", "abs", "sign") + "(" + sub("int", t.dims...) + ")"
	case k == 3:
		return "(" + sub("bool", t.dims...) + w.choose(" && ", " || ") + scalarOr("bool") + ")"
	case k == 4:
		return "select(" + scalarOr("bool") + ", " + sub(t.elem, t.dims...) + ", " + scalarOr(t.elem) + ")"
	case k == 5:
		return w.let(t, depth)
	case k == 6 && len(w.defs) > 0:
		return w.call(t, depth)
	case n == 0:
		return w.scalar(t, sub)
	case n == 1:
		return w.list(t, sub)
	case n == 2:
		return w.matrix(t, sub)
	}
	return w.leaf(t)
}

func (w *writer) scalar(t want, sub func(string, ...string) string) string {
	d := w.choose("n", "m")
	switch w.r.Intn(4) {
	case 0:
		return "index(" + sub(t.elem, d) + ", " + sub("int") + ")"
	case 1:
		if t.elem == "bool" {
			return "fold(or, false, " + sub("bool", d) + ")"
		}
		return "fold(" + w.choose("add", "max", "sub") + ", " + sub("int") + ", " + sub("int", d) + ")"
	case 2:
		return "index(" + sub(t.elem, d) + ", " + w.choose("0", "1", "size["+d+"] - 1") + ")"
	}
	return w.leaf(t)
}

func (w *writer) list(t want, sub func(string, ...string) string) string {
	d := t.dims[0]
	switch w.r.Intn(11) {
	case 0:
		return "reverse(" + sub(t.elem, d) + ")"
	case 1:
		return "scan(" + map[string]string{"int": "add", "bool": "and"}[t.elem] + ", " + sub(t.elem, d) + ")"
	case 2:
		return "update(" + sub(t.elem, d) + ", " + sub("int") + ", " + sub(t.elem) + ")"
	case 3:
		return "take[" + d + "](append(" + sub(t.elem, d) + ", " + sub(t.elem, w.choose("n", "m")) + "))"
	case 4:
		return "drop[" + d + "](append(" + sub(t.elem, d) + ", " + sub(t.elem, d) + "))"
	case 5:
		return "index(" + sub(t.elem, d) + ", " + sub("int", d) + ")"
	case 6:
		return "index(" + sub(t.elem, d) + ", iota[" + d + "]())"
	case 7:
		return "diagonal(" + sub(t.elem, d, d) + ")"
	case 8:
		if t.elem == "int" {
			return "fold(add, 0, " + sub("int", d, w.choose("n", "m")) + ")"
		}
		return "index(" + sub(t.elem, d, w.choose("n", "m")) + ", 0)"
	case 9:
		return "index(chunk{2}(append(" + sub(t.elem, d) + ", " + sub(t.elem, d) + ")), " + w.choose("0", "1", "2") + ")"
	}
	if d == "2" {
		return "[" + sub(t.elem) + ", " + sub(t.elem) + "]"
	}
	return w.leaf(t)
}

func (w *writer) matrix(t want, sub func(string, ...string) string) string {
	a, b := t.dims[0], t.dims[1]
	switch w.r.Intn(6) {
	case 0:
		return "transpose(" + sub(t.elem, b, a) + ")"
	case 1:
		return "fill[" + b + "](" + sub(t.elem, a) + ")"
	case 2:
		return "reverse(" + sub(t.elem, a, b) + ")"
	case 3:
		return "update(" + sub(t.elem, a, b) + ", " + sub("int", a) + ", " + sub(t.elem) + ")"
	case 4:
		if b == "2" {
			return "[" + sub(t.elem, a) + ", " + sub(t.elem, a) + "]"
		}
		return "take[" + b + "](" + sub(t.elem, a, b) + ")"
	}
	return w.leaf(t)
}

func (w *writer) anyType() want {
	elem := w.choose("int", "int", "bool")
	return want{elem, [][]string{nil, {"n"}, {"n"}, {"m"}, {"n", "m"}, {"n", "n"}, {"n", "2"}}[w.r.Intn(7)]}
}

func (w *writer) let(t want, depth int) string {
	of := w.anyType()
	w.lets++
	name := fmt.Sprint("t", w.lets)
	value := w.expr(of, depth-1)
	w.vars, w.types = append(w.vars, name), append(w.types, of)
	body := w.expr(t, depth-1)
	w.vars, w.types = w.vars[:len(w.vars)-1], w.types[:len(w.types)-1]
	return "(let " + name + " = " + value + " in " + body + ")"
}

// call writes a call of a definition that gives a type, perhaps over a frame.
func (w *writer) call(t want, depth int) string {
	i := w.r.Intn(len(w.defs))
	if w.gives[i].elem != t.elem || strings.Join(w.gives[i].dims, " ") != strings.Join(t.dims, " ") {
		return w.leaf(t)
	}
	var args []string
	for _, p := range w.needs[i] {
		args = append(args, w.expr(p, depth-1))
	}
	return w.defs[i] + "(" + strings.Join(args, ", ") + ")"
}

// text writes a module of some definitions. Each has the parameters x: [n]int and y: [m]int, so that their dimensions are known, and further ones.
func text(r *rand.Rand, name string, defs, depth int) string {
	w := &writer{r: r}
	out := "module " + name + "\n"
	var names []string
	body := ""
	for i := range defs {
		w.vars, w.types = []string{"x", "y"}, []want{{"int", []string{"n"}}, {"int", []string{"m"}}}
		for j := range r.Intn(3) {
			w.vars, w.types = append(w.vars, fmt.Sprint("p", j)), append(w.types, w.anyType())
		}
		var params []string
		for j, v := range w.vars {
			if j > 1 && r.Intn(2) == 0 {
				params = append(params, v)
			} else {
				params = append(params, v+": "+fmt.Sprint(w.types[j]))
			}
		}
		result := w.anyType()
		name := fmt.Sprint("f", i)
		needs := append([]want(nil), w.types...)
		body += "def " + name + "(" + strings.Join(params, ", ") + ") = " + w.expr(result, depth) + "\n"
		w.defs, w.needs, w.gives = append(w.defs, name), append(w.needs, needs), append(w.gives, result)
		names = append(names, name)
	}
	return out + "export " + strings.Join(names, ", ") + "\n" + body
}

// resolved returns the program of texts.
func resolved(texts ...string) (api.Program, error) {
	var l []api.Module
	for _, s := range texts {
		m, at, e := parser.Parse(s)
		if e != api.OK {
			return api.Program{}, fmt.Errorf("%s at %d of %s", api.Name(e), at, s)
		}
		l = append(l, m)
	}
	p, at, e := resolve.Resolve(l)
	if e != api.OK {
		return api.Program{}, fmt.Errorf("%s at %v of %v", api.Name(e), at, texts)
	}
	return p, nil
}

// corpus are modules by hand.
var corpus = []string{
	"module m def f(x) = x + 1",
	"module m def sum(x: [n]int) = fold(add, 0, x) def rows(y: [k, n]int) = sum(y)",
	"module m def pairs(x: [n]int) = windows[2](x)",
	"module m def f(x: [n]int) = index(x, iota[n]())",
	"module m def at(x: [n]int, i) = index(x, i)",
	"module m def dot(x: [n]int, y: [n]int) = fold(add, 0, x * y) def mat(a: [i, k]int, b: [k, j]int) = dot@(1, 1)(a, fill[j](index(transpose(b), 0)))",
	"module m def step(a: int, b: int) = a * 3 - b def f(x: [n]int) = scan(step, x) def g(x) = fold(step, 1, x)",
	"module m def id(x) = x def f(x: [n, m]int, y: bool) = select(y, id(x), neg(id(x))) def g(x) = id@(1)(x)",
	"module m def mean(x: [n]int) = fold(add, 0, x) / size[n] def norm(x: [n]int) = x - mean(x) def all(m: [k, n]int) = norm(m)",
	"module m def put(x: [n]int, i: [k]int, v: [k]int) = update(fill[k](0), i, v) def two(x: [n]bool) = [x, !x]",
	"module m def f(x: [n]int) = chunk{2}(append(x, reverse(x))) def g(x: [n]int) = f(x) * 2 def h(a, b) = a < b && a != 0 || b == 1",
	"module m def diag(x: [n, n]int) = diagonal(x) + diagonal(transpose(x)) def c() = #[2 2: 1 2 3 4] def k(x) = x * diag(c())",
	"module m def clip(x, lo, hi) = min(max(x, lo), hi) def at(x: [n]int, i: [k]int) = index(x, clip(i, 0, size[n] - 1))",
}
