package parser_test

import (
	"math/rand"
	"slices"
	"strconv"
	"strings"
	"testing"

	"framewise/api"
	"framewise/array"
	"framewise/linear"
	"framewise/parser"
	"framewise/term"
	"framewise/types"
)

// show writes a term with all of its calls, and its line if it is not 1.
func show(t api.Term) string {
	var kids []string
	for _, k := range t.Kids {
		kids = append(kids, show(k))
	}
	s := ""
	switch t.Kind {
	case api.TermVar:
		s = t.Name
	case api.TermLit:
		s = t.Name[:1] + strconv.Itoa(t.Num)
	case api.TermConst:
		s, _ = array.Print(t.Array)
	case api.TermSize:
		s = "size"
	case api.TermLet:
		s = "let " + t.Name
	case api.TermCall:
		s = t.Name
	case api.TermPack:
		s = "pack"
	case api.TermFold:
		s = "fold " + t.Name
	case api.TermScan:
		s = "scan " + t.Name
	}
	for _, l := range t.Sizes {
		s += "[" + linear.Print(l) + "]"
	}
	if t.Num != 0 && t.Kind == api.TermCall {
		s += "{" + strconv.Itoa(t.Num) + "}"
	}
	for _, r := range t.Ranks {
		s += "@" + strconv.Itoa(r)
	}
	if t.Line > 1 {
		s += "#" + strconv.Itoa(t.Line)
	}
	if t.Kind >= api.TermLet {
		s += "(" + strings.Join(kids, ", ") + ")"
	}
	return s
}

func TestExpr(t *testing.T) { // P26.1, P26.2
	for text, want := range map[string]string{
		"a - b - 2 * -3": "sub(sub(a, b), mul(i2, i-3))", "a": "a", "true": "b1", "false": "b0", "2147483647": "i2147483647", "-2147483648": "i-2147483648", "- -5": "neg(i-5)", "-x": "neg(x)", "!-x": "not(neg(x))", "-(5)": "neg(i5)", "--5": "neg(i-5)",
		"a || b && c == d + e * -f": "or(a, and(b, eq(c, add(d, mul(e, neg(f))))))", "a * b + c < d && e || f": "or(and(lt(add(mul(a, b), c), d), e), f)", "a < b && c < d": "and(lt(a, b), lt(c, d))", "(a < b) < c": "lt(lt(a, b), c)", "a - (b - c)": "sub(a, sub(b, c))", "a % b / c": "div(mod(a, b), c)", "a != b": "ne(a, b)", "a >= b": "ge(a, b)", "a <= b": "le(a, b)", "a > b": "gt(a, b)",
		"let a = 1 in let b = a in a + b": "let a(i1, let b(a, add(a, b)))", "let a = let b = 1 in b in a": "let a(let b(i1, b), a)", "(let a = 1 in a) + 2": "add(let a(i1, a), i2)", "[let a = 1 in a, b]": "pack(let a(i1, a), b)",
		"f()": "f()", "m.f(x, y)": "m.f(x, y)", "f(let a = 1 in a)": "f(let a(i1, a))", "take[n-1](x)": "take[n-1](x)", "f[n, 2m+n-3, -k](x)": "f[n][2m+n-3][-k](x)", "chunk{4}(x)": "chunk{4}(x)", "f@(0, 1)(x, y)": "f@0@1(x, y)", "m.f[n]{3}@(2)(x)": "m.f[n]{3}@2(x)", "f{0}(x)": "f(x)",
		"fold(add, 0, x)": "fold add(i0, x)", "scan(m.g, x)": "scan m.g(x)", "fold(m.f, a + b, [c])": "fold m.f(add(a, b), pack(c))", "size[2n-n+1]": "size[n+1]", "#[2: 1 -2]": "#[2: 1 -2]", "# b [ 1 : 1 ]": "#b[1: 1]", "#[:5]": "#[: 5]", "#[0:]": "#[0:]", "#[:-2147483648]": "#[: -2147483648]",
		"((a))": "a", "((a) + (b))": "add(a, b)", "a\n+\nb * c": "add(a, mul#3(b#3, c#3))", "(\na)\n+ (\nb)": "add(a#2, b#4)", "f(\n-\n5)": "f(i-5#2)", "-\n(5)": "neg(i5#2)", "[\n1]": "pack(i1#2)", "b": "b", "size[0n]": "size[0]", "size[1000000-1000000]": "size[0]",
	} {
		x, at, e := parser.Expr(text)
		if e != api.OK || at != 0 || show(x) != want {
			t.Errorf("%q: %s %d %d", text, show(x), at, e)
		}
	}
}

func TestErrors(t *testing.T) { // P26.1
	for _, c := range []struct {
		text string
		at   int
		e    api.Errno
	}{
		{"", 0, api.ErrSyntax}, {"  ", 2, api.ErrSyntax}, {"a b", 2, api.ErrSyntax}, {"a +", 3, api.ErrSyntax}, {"a + + b", 4, api.ErrSyntax}, {"a < b < c", 6, api.ErrSyntax}, {"a < b + c == d", 10, api.ErrSyntax}, {"a + let b = 1 in b", 4, api.ErrSyntax}, {"let a = 1", 9, api.ErrSyntax}, {"let 1 = 1 in a", 4, api.ErrSyntax}, {"2147483648", 0, api.ErrSyntax}, {"1 - 2147483648", 4, api.ErrSyntax}, {"- (2147483648)", 3, api.ErrSyntax},
		{"f(", 2, api.ErrSyntax}, {"f(a", 3, api.ErrSyntax}, {"f(a,)", 4, api.ErrSyntax}, {"m.f", 3, api.ErrSyntax}, {"m.f + 1", 4, api.ErrSyntax}, {"m.1", 2, api.ErrSyntax}, {"f[n] + 1", 5, api.ErrSyntax}, {"f[]", 2, api.ErrSyntax}, {"f[n m](x)", 4, api.ErrSyntax}, {"f[2 3](x)", 4, api.ErrSyntax}, {"f[2 n](x)", 0, api.OK}, {"f[n 2](x)", 4, api.ErrSyntax}, {"f[- -n](x)", 4, api.ErrSyntax}, {"f[+n](x)", 2, api.ErrSyntax}, {"f[2*n](x)", 3, api.ErrSyntax}, {"f{n}(x)", 2, api.ErrSyntax}, {"f{1}[n](x)", 4, api.ErrSyntax}, {"f@1(x)", 2, api.ErrSyntax}, {"f@()(x)", 3, api.ErrSyntax}, {"f@(1)", 5, api.ErrSyntax},
		{"[]", 1, api.ErrSyntax}, {"[a b]", 3, api.ErrSyntax}, {"fold(add, 0)", 11, api.ErrSyntax}, {"fold(1, 0, x)", 5, api.ErrSyntax}, {"fold add", 5, api.ErrSyntax}, {"scan(add, x, y)", 11, api.ErrSyntax}, {"size(n)", 4, api.ErrSyntax}, {"size[n, m]", 6, api.ErrSyntax}, {"#c[: 1]", 1, api.ErrSyntax}, {"#[n: 1]", 2, api.ErrSyntax}, {"#[-1: 1]", 2, api.ErrSyntax}, {"#[: 1 - - 1]", 8, api.ErrSyntax}, {"#[: n]", 4, api.ErrSyntax}, {"#[1]", 3, api.ErrSyntax}, {"a.b.c(x)", 3, api.ErrSyntax}, {"int", 0, api.ErrSyntax}, {"a = b", 2, api.ErrSyntax}, {"a ! b", 2, api.ErrSyntax}, {"5(x)", 1, api.ErrSyntax}, {"x[n]", 4, api.ErrSyntax}, {"(a", 2, api.ErrSyntax}, {"a)", 1, api.ErrSyntax}, {"a where b", 2, api.ErrSyntax},
		{"a $", 2, api.ErrSyntax}, {"a b $", 4, api.ErrSyntax}, {strings.Repeat("a", 31), 0, api.ErrSyntax}, {strings.Repeat(" ", 20001), 0, api.ErrLimit},
		{"#[1: 5 6]", 0, api.ErrLimit}, {"#b[: 2]", 0, api.ErrLimit}, {"#[: 2147483648]", 0, api.ErrLimit}, {"f{65}(x)", 0, api.ErrLimit}, {"f@(7)(x)", 0, api.ErrLimit}, {"f@(1, 1)(x)", 0, api.ErrLimit}, {"f(a, b, c, d, e, f, g, h, i)", 0, api.ErrLimit}, {"f[a, b, c, d, e](x)", 0, api.ErrLimit}, {"size[1000001]", 0, api.ErrLimit}, {"size[1000001-1]", 0, api.ErrLimit}, {"size[1000000+1-1]", 0, api.ErrLimit}, {"size[2147483648n]", 0, api.ErrLimit}, {"size[1000000n]", 0, api.OK}, {"1 + size[1000001]", 0, api.ErrLimit}, {"size[1000001] +", 15, api.ErrSyntax}, {strings.Repeat("-", 39) + "x", 0, api.OK}, {strings.Repeat("-", 40) + "x", 0, api.ErrLimit}, {strings.Repeat("(", 1000) + "x" + strings.Repeat(")", 1000), 0, api.OK}, {strings.Repeat("(", 3000), 3000, api.ErrSyntax}, {"[" + strings.Repeat("x, ", 16) + "x]", 0, api.ErrLimit},
	} {
		x, at, e := parser.Expr(c.text)
		if at != c.at || e != c.e || e != api.OK && !term.Equal(x, api.Term{}) {
			t.Errorf("%.40q: %d %d", c.text, at, e)
		}
		// What follows the wrong token does not matter.
		if c.e == api.ErrSyntax && c.at < len(c.text) && !strings.Contains(c.text, "$") && len(c.text) < 31 {
			if _, again, f := parser.Expr(c.text + " ) 7 def"); again != at || f != e {
				t.Errorf("%.40q and more: %d %d", c.text, again, f)
			}
		}
	}
	for text, want := range map[string]string{"2n - n+1": "n+1", "-n": "-n", "3": "3", "-3 m": "-3m", "n+m-n": "m", "0n": "0"} {
		if l, at, e := parser.Size(text); linear.Print(l) != want || at != 0 || e != api.OK {
			t.Errorf("%q: %s %d", text, linear.Print(l), e)
		}
	}
	for text, want := range map[string]api.Errno{"1000001": api.ErrLimit, "n*2": api.ErrSyntax, "": api.ErrSyntax, "n n": api.ErrSyntax, "_1": api.ErrSyntax, "600000n+600000n-n": api.ErrLimit, "a+b+c+d+e+f+g+h+i+j+k+l+m-m": api.ErrLimit} {
		if l, _, e := parser.Size(text); e != want || l.Terms != nil {
			t.Errorf("%q: %d", text, e)
		}
	}
}

func typ(t api.Type) string {
	s, _ := types.Print(t)
	return s
}

func TestParse(t *testing.T) { // P26.1
	m, at, e := parser.Parse("module m import a, b\nimport c export f,g\n\ndef f() = 1 def g(x, y: [r.., n+1]int,\n z: []bool): [2, n]int =\n x def h(w: [n..]int, v: [n]bool): bool = w // end")
	if e != api.OK || at != 0 || m.Name != "m" || !slices.Equal(m.Imports, []string{"a", "b", "c"}) || !slices.Equal(m.Exports, []string{"f", "g"}) || len(m.Defs) != 3 {
		t.Fatalf("%v %d %d", m, at, e)
	}
	f, g, h := m.Defs[0], m.Defs[1], m.Defs[2]
	if f.Name != "f" || f.Line != 4 || f.Given || len(f.Params) != 0 || show(f.Body) != "i1#4" {
		t.Errorf("%v", f)
	}
	if g.Line != 4 || !g.Given || typ(g.Result) != "[2, n]int" || len(g.Params) != 3 || g.Params[0].Given || !g.Params[1].Given || typ(g.Params[1].Type) != "[r.., n+1]int" || typ(g.Params[2].Type) != "bool" || show(g.Body) != "x#6" {
		t.Errorf("%v", g)
	}
	if typ(h.Params[0].Type) != "[n..]int" || typ(h.Params[1].Type) != "[n]bool" || typ(h.Result) != "bool" {
		t.Errorf("%v", h)
	}
	many := "module m def f(x) = " + "let y = x in "
	for i, c := range []struct {
		text string
		at   int
		e    api.Errno
	}{
		{"module m", 0, api.OK}, {"", 0, api.ErrSyntax}, {"module", 6, api.ErrSyntax}, {"module m.n", 8, api.ErrSyntax}, {"module 1", 7, api.ErrSyntax}, {"mod m", 0, api.ErrSyntax}, {"module m export f export g", 18, api.ErrSyntax}, {"module m export f import g", 18, api.ErrSyntax}, {"module m def f() = 1 import g", 21, api.ErrSyntax}, {"module m import", 15, api.ErrSyntax}, {"module m import a,", 18, api.ErrSyntax}, {"module m import a b", 18, api.ErrSyntax},
		{"module m def f = 1", 15, api.ErrSyntax}, {"module m def f( = 1", 16, api.ErrSyntax}, {"module m def f(x,) = 1", 17, api.ErrSyntax}, {"module m def f(x:) = 1", 17, api.ErrSyntax}, {"module m def f(x: [n) = 1", 20, api.ErrSyntax}, {"module m def f(x: [n]) = 1", 21, api.ErrSyntax}, {"module m def f(x: [n..m]int) = 1", 22, api.ErrSyntax}, {"module m def f(x: [n.., ]int) = 1", 24, api.ErrSyntax}, {"module m def f(x: [, n]int) = 1", 19, api.ErrSyntax}, {"module m def f(x: [n, r..]int) = 1", 23, api.ErrSyntax}, {"module m def f(x: a) = 1", 18, api.ErrSyntax}, {"module m def f(x): = 1", 19, api.ErrSyntax}, {"module m def f(x) = 1 + def g() = 2", 24, api.ErrSyntax}, {"module m def f(x) = 1 2", 22, api.ErrSyntax}, {"module m def f(x) 1", 18, api.ErrSyntax}, {"module m def f(x) -> 1", 18, api.ErrSyntax}, {many, len(many), api.ErrSyntax},
		{"module m def f(x) = 1 def g(x) = size[1000001] def h(a, b, c, d, e, f, g, h, i) = 1", 22, api.ErrLimit}, {"module m def f(a, b, c, d, e, f, g, h) = 1", 0, api.OK}, {"module m def f(a, b, c, d, e, f, g, h, i) = 1", 9, api.ErrLimit}, {"module m def f(x: [1000001]int) = 1", 9, api.ErrLimit}, {"module m def f(x: [1, 2, 3, 4, 5, 6, 7]int) = 1", 9, api.ErrLimit}, {"module m def f(x: [r.., 1, 2, 3, 4, 5, 6]int) = 1", 0, api.OK}, {"module m def f(): [1, 2, 3, 4, 5, 6, 7]int = 1", 9, api.ErrLimit}, {"module m def f() = #[2: 1]", 9, api.ErrLimit}, {"module m" + strings.Repeat("\n", 9999) + "def f() = 1", 0, api.OK}, {"module m" + strings.Repeat("\n", 10000) + "def f() = 1", 10008, api.ErrLimit}, {"module m def f() =" + strings.Repeat("\n", 10000) + "1", 9, api.ErrLimit},
		{"module m import a" + strings.Repeat(", a", 19), 0, api.OK}, {"module m import a" + strings.Repeat(", a", 20), 0, api.ErrLimit}, {"module m export a" + strings.Repeat(", a", 59), 0, api.OK}, {"module m export a" + strings.Repeat(", a", 60), 0, api.ErrLimit}, {"module m" + strings.Repeat(" def f() = 1", 60), 0, api.OK}, {"module m" + strings.Repeat(" def f() = 1", 61), 0, api.ErrLimit}, {"module m import a" + strings.Repeat(", a", 20) + " def f() = {", 88, api.ErrSyntax}, {"module m import a" + strings.Repeat(", a", 20) + " def f() = #[2: 1]", 78, api.ErrLimit},
		{"module m def f() = 1 $", 21, api.ErrSyntax},
	} {
		m, at, e := parser.Parse(c.text)
		if at != c.at || e != c.e || e != api.OK && (m.Name != "" || m.Defs != nil) {
			t.Errorf("%d: %.60q: %d %d", i, c.text, at, e)
		}
	}
}

func TestBlanks(t *testing.T) { // P26.3, P26.4, P26.6
	r := rand.New(rand.NewSource(1))
	parts := strings.Fields("module m import a export f def f ( x : [ r .. , n + 1 ] int ) = let y = take [ n - 1 ] ( x ) in fold ( add , 0 , y ) * - 3 def g ( y ) = [ y , a . h ( y ) ]")
	plain, _, _ := parser.Parse(strings.Join(parts, " "))
	for range 100 {
		text := ""
		for _, p := range parts {
			text += p + []string{" ", "\n", "\t ", "// x\n", " // def\n "}[r.Intn(5)]
		}
		m, _, e := parser.Parse(text)
		if e != api.OK || len(m.Defs) != 2 || !slices.Equal(m.Imports, plain.Imports) || !slices.Equal(m.Exports, plain.Exports) {
			t.Fatalf("%q: %d", text, e)
		}
		for i, d := range m.Defs {
			if !term.Equal(d.Body, plain.Defs[i].Body) || !term.Valid(d.Body) || d.Name != plain.Defs[i].Name || len(d.Params) != 1 || d.Params[0].Given != plain.Defs[i].Params[0].Given {
				t.Fatalf("%q: %v", text, d)
			}
		}
		more, _, e := parser.Parse(text + "def k() = 7")
		if e != api.OK || len(more.Defs) != 3 || !term.Equal(more.Defs[1].Body, m.Defs[1].Body) || more.Defs[1].Line != m.Defs[1].Line {
			t.Fatalf("%q and more: %d", text, e)
		}
	}
	// Parentheses change nothing but the grouping.
	for _, text := range []string{"a + b * c", "a - b - c", "-a * b", "a < b || c", "!a && b"} {
		x, _, _ := parser.Expr(text)
		y, _, e := parser.Expr("((" + text + "))")
		if !term.Equal(x, y) || e != api.OK {
			t.Errorf("%s", text)
		}
	}
}
