package element_test

import (
	"math"
	"math/rand"
	"slices"
	"testing"

	"framewise/api"
	"framewise/element"
)

// numbers are int elements at the ends and around 0, and others.
func numbers() []int {
	l := []int{element.Least, element.Least + 1, element.Greatest, element.Greatest - 1, 65536, -65536, 46341, 1 << 30}
	for i := -9; i <= 9; i++ {
		l = append(l, i)
	}
	r := rand.New(rand.NewSource(1))
	for i := 0; i < 20; i++ {
		l = append(l, element.Wrap(r.Int()))
	}
	return l
}

func apply(op string, args ...int) int {
	n, ok := element.Apply(op, args)
	if !ok {
		panic(op)
	}
	return n
}

func pairs(f func(a, b int)) {
	for _, a := range numbers() {
		for _, b := range numbers() {
			f(a, b)
		}
	}
}

func TestExamples(t *testing.T) { // P17.1
	for i, c := range []struct {
		op   string
		args []int
		want int
	}{
		{"div", []int{-7, 2}, -4}, {"mod", []int{-7, 2}, 1}, {"div", []int{7, -2}, -4}, {"mod", []int{7, -2}, -1}, {"div", []int{7, 0}, 0}, {"mod", []int{7, 0}, 0}, {"mul", []int{65536, 65536}, 0}, {"neg", []int{element.Least}, element.Least}, {"abs", []int{element.Least}, element.Least}, {"abs", []int{-5}, 5}, {"div", []int{element.Least, -1}, element.Least}, {"mod", []int{element.Least, -1}, 0}, {"sign", []int{-9}, -1}, {"sign", []int{0}, 0}, {"sign", []int{3}, 1}, {"add", []int{element.Greatest, 1}, element.Least}, {"sub", []int{element.Least, 1}, element.Greatest}, {"select", []int{1, 5, 6}, 5}, {"select", []int{0, 5, 6}, 6}, {"toint", []int{1}, 1}, {"eq", []int{5, 5}, 1}, {"ne", []int{5, 5}, 0}, {"xor", []int{1, 1}, 0}, {"not", []int{0}, 1}, {"min", []int{3, -4}, -4}, {"max", []int{3, -4}, 3},
	} {
		if n := apply(c.op, c.args...); n != c.want {
			t.Errorf("%d: %s of %v: %d", i, c.op, c.args, n)
		}
	}
}

func TestTable(t *testing.T) { // P17.1
	want := []string{"add", "sub", "mul", "div", "mod", "min", "max", "neg", "abs", "sign", "lt", "le", "gt", "ge", "eq", "ne", "and", "or", "xor", "not", "select", "toint"}
	if !slices.Equal(element.Ops(), want) {
		t.Error("Ops")
	}
	element.Ops()[0] = "x"
	if p, r, ok := element.Types("select"); !slices.Equal(p, []string{"bool", "A", "A"}) || r != "A" || !ok || element.Ops()[0] != "add" {
		t.Error("Types")
	}
	if p, r, ok := element.Types("iota"); p != nil || r != "" || ok {
		t.Error("Types of no primitive")
	}
	for i, c := range []struct {
		op     string
		params []string
		want   string
		ok     bool
	}{
		{"add", []string{"int", "int"}, "int", true}, {"add", []string{"int", "bool"}, "", false}, {"add", []string{"int"}, "", false}, {"add", []string{"int", "int", "int"}, "", false}, {"lt", []string{"int", "int"}, "bool", true}, {"eq", []string{"bool", "bool"}, "bool", true}, {"eq", []string{"bool", "int"}, "", false}, {"eq", []string{"A", "A"}, "", false}, {"select", []string{"bool", "int", "int"}, "int", true}, {"select", []string{"bool", "bool", "bool"}, "bool", true}, {"select", []string{"bool", "bool", "int"}, "", false}, {"select", []string{"int", "int", "int"}, "", false}, {"toint", []string{"bool"}, "int", true}, {"iota", nil, "", false}, {"", nil, "", false},
	} {
		if r, ok := element.Result(c.op, c.params); r != c.want || ok != c.ok {
			t.Errorf("%d: %q %v", i, r, ok)
		}
	}
	for i, c := range []struct {
		op   string
		args []int
	}{
		{"add", []int{1}}, {"add", []int{1, 2, 3}}, {"add", []int{1, 1 << 31}}, {"eq", []int{1, element.Least - 1}}, {"and", []int{1, 2}}, {"not", []int{-1}}, {"select", []int{2, 1, 1}}, {"select", []int{1, 1, 1 << 40}}, {"toint", []int{2}}, {"neg", nil}, {"iota", nil}, {"", nil},
	} {
		if n, ok := element.Apply(c.op, c.args); n != 0 || ok {
			t.Errorf("%d: %d", i, n)
		}
	}
	for n, want := range map[int][2]bool{0: {true, true}, 1: {true, true}, 2: {true, false}, -1: {true, false}, element.Least: {true, false}, element.Greatest: {true, false}, element.Least - 1: {false, false}, element.Greatest + 1: {false, false}} {
		if element.Valid(api.Int, n) != want[0] || element.Valid(api.Bool, n) != want[1] || element.Valid("A", n) {
			t.Errorf("Valid of %d", n)
		}
	}
}

func TestValues(t *testing.T) { // P17.1: all values are elements of the type of the result
	for _, op := range element.Ops() {
		params, _, _ := element.Types(op)
		pairs(func(a, b int) {
			args := []int{a, b, a ^ b}[:len(params)]
			types := slices.Clone(params)
			for i, p := range params {
				if p == api.Bool {
					args[i] &= 1
				}
				if p == "A" {
					types[i] = api.Int
				}
			}
			n, ok := element.Apply(op, args)
			if result, _ := element.Result(op, types); !ok || !element.Valid(result, n) {
				t.Fatalf("%s of %v: %d", op, args, n)
			}
		})
	}
}

func TestRing(t *testing.T) { // P17.2
	pairs(func(a, b int) {
		c := a ^ b
		if apply("add", a, b) != apply("add", b, a) || apply("mul", a, b) != apply("mul", b, a) || apply("sub", a, b) != apply("add", a, apply("neg", b)) {
			t.Fatalf("%d %d", a, b)
		}
		if apply("add", apply("add", a, b), c) != apply("add", a, apply("add", b, c)) || apply("mul", apply("mul", a, b), c) != apply("mul", a, apply("mul", b, c)) || apply("mul", a, apply("add", b, c)) != apply("add", apply("mul", a, b), apply("mul", a, c)) {
			t.Fatalf("%d %d %d", a, b, c)
		}
		if element.Wrap(a+b) != apply("add", a, b) || element.Wrap(a*b) != apply("mul", a, b) {
			t.Fatalf("%d %d", a, b)
		}
	})
}

func TestDivision(t *testing.T) { // P17.3
	pairs(func(a, b int) {
		q, m := apply("div", a, b), apply("mod", a, b)
		if b == 0 {
			if q != 0 || m != 0 {
				t.Fatalf("%d by 0", a)
			}
			return
		}
		if apply("add", apply("mul", b, q), m) != a || m != 0 && (m < 0) != (b < 0) || max(m, -m) >= max(b, -b) {
			t.Fatalf("%d by %d: %d %d", a, b, q, m)
		}
	})
}

func TestOrder(t *testing.T) { // P17.4
	pairs(func(a, b int) {
		if apply("min", a, b) != min(a, b) || apply("max", a, b) != max(a, b) || apply("min", a, apply("max", a, b)) != a {
			t.Fatalf("%d %d", a, b)
		}
		if apply("lt", a, b)+apply("eq", a, b)+apply("gt", a, b) != 1 || apply("le", a, b) != apply("or", apply("lt", a, b), apply("eq", a, b)) || apply("ge", a, b) != apply("not", apply("lt", a, b)) || apply("ne", a, b) != apply("not", apply("eq", a, b)) {
			t.Fatalf("%d %d", a, b)
		}
		if apply("abs", a) != apply("mul", a, apply("sign", a)) || apply("lt", a, b) == 1 != (a < b) {
			t.Fatalf("%d", a)
		}
	})
}

func TestTruth(t *testing.T) { // P17.5
	for i := 0; i < 8; i++ {
		a, b, c := i&1, i>>1&1, i>>2
		if apply("not", apply("and", a, b)) != apply("or", apply("not", a), apply("not", b)) || apply("and", a, apply("or", b, c)) != apply("or", apply("and", a, b), apply("and", a, c)) || apply("or", a, apply("and", b, c)) != apply("and", apply("or", a, b), apply("or", a, c)) {
			t.Errorf("%d %d %d", a, b, c)
		}
		if apply("xor", a, b) != apply("ne", a, b) || apply("select", apply("not", a), b, c) != apply("select", a, c, b) || apply("toint", a) != a || apply("and", a, b) != a*b {
			t.Errorf("%d %d %d", a, b, c)
		}
	}
}

func TestWrapping(t *testing.T) { // P17.6
	for _, n := range append(numbers(), math.MinInt, math.MaxInt, 1<<31, 1<<32, -1<<31-1, 1<<40+5) {
		w := element.Wrap(n)
		if !element.Valid(api.Int, w) || element.Wrap(w) != w || element.Valid(api.Int, n) && w != n || (n-w)%(1<<32) != 0 || element.Wrap(n+7<<32) != element.Wrap(n+7<<32) || element.Wrap(n&(1<<50-1)+3<<32) != element.Wrap(n&(1<<50-1)) {
			t.Errorf("%d: %d", n, w)
		}
	}
}
