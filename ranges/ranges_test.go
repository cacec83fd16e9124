package ranges_test

import (
	"fmt"
	"math/rand"
	"slices"
	"strings"
	"testing"

	"framewise/api"
	"framewise/elaborate"
	"framewise/linear"
	"framewise/parser"
	"framewise/ranges"
	"framewise/resolve"
	"framewise/types"
)

func elaborated(text string) []api.Typed {
	m, at, e := parser.Parse("module m " + text)
	if e != api.OK {
		panic(fmt.Sprint(text, at, e))
	}
	p, fault, e := resolve.Resolve([]api.Module{m})
	if e != api.OK {
		panic(fmt.Sprint(text, fault, e))
	}
	l, lines, e := elaborate.All(p)
	if e != api.OK {
		panic(fmt.Sprint(text, lines, e))
	}
	return l
}

func lin(s string) api.Linear {
	l, e := linear.Parse(s)
	if e != api.OK {
		panic(s)
	}
	return l
}

func scheme(s string) api.Scheme {
	t, e := types.ParseScheme(s)
	if e != api.OK {
		panic(s)
	}
	return t
}

func show(r ranges.Range) string {
	lo, hi := "-", "-"
	if r.Low {
		lo = linear.Print(r.Lo)
	}
	if r.High {
		hi = linear.Print(r.Hi)
	}
	return lo + " " + hi
}

// span parses a range of two ends.
func span(s string) ranges.Range {
	lo, hi, _ := strings.Cut(s, " ")
	var r ranges.Range
	if r.Low = lo != "-"; r.Low {
		r.Lo = lin(lo)
	}
	if r.High = hi != "-"; r.High {
		r.Hi = lin(hi)
	}
	return r
}

func TestRules(t *testing.T) { // P34.1
	for body, want := range map[string]string{
		"5": "5 5", "-1000000": "-1000000 -1000000", "1000001": "- -", "true": "- -", "#[3: 4 -7 2]": "-7 4", "#[0:]": "- -", "#[1: 1000001]": "- -", "#b[1: 1]": "- -", "size[n]": "n1 n1", "size[2n-3]": "2n1-3 2n1-3", "size[999999]": "- -", "size[499999]": "499999 499999", "size[500000]": "- -", "x": "- -", "i": "- -", "let y = iota[n]() in y": "0 n1-1", "let x = 3 in let y = x in y": "3 3", "let y = x in let y = 4 in y": "4 4",
		"[1, size[n], 3]": "- -", "[1, 5, 3]": "1 5", "[size[n], size[n+1]]": "n1 n1+1", "iota[n]()": "0 n1-1", "iota[0]()": "0 -1", "fill[3](7)": "7 7", "take[1](#[2: 8 9])": "8 9", "drop[1](#[2: 8 9])": "8 9", "reverse(iota[n]())": "0 n1-1", "append(iota[n](), iota[m]())": "0 -", "append(iota[n](), #[1: -2])": "-2 n1-1", "transpose(#[1 2: 3 4])": "3 4", "diagonal(#[1 1: 3])": "3 3", "windows[1](iota[n]())": "0 n1-1", "chunk{2}(#[2: 1 5])": "1 5", "select(true, 1, size[n])": "- -", "select(true, 1, 4)": "1 4", "select(true, -1, iota[n]())": "-1 n1-1", "update(iota[n](), 0, 5)": "0 -", "update(#[1: 2], 0, 5)": "2 5", "index(#[2: 3 5], i)": "0 5", "index(iota[n](), i)": "0 -", "index(x, i)": "- -",
		"sign(x)": "-1 1", "toint(x < 1)": "0 1", "1 + iota[n]()": "1 n1", "size[n] - iota[n]()": "1 n1", "-iota[n]()": "-n1+1 0", "x + 1": "- -", "iota[n]() + size[m]": "n2 n1+n2-1", "size[300000] + size[300000]": "- -", "iota[n]() * 3": "0 3n1-3", "-2 * iota[n]()": "-2n1+2 0", "iota[n]() * iota[n]()": "- -", "2 * 3": "6 6", "(2 + 0) * 3": "6 6", "x * 3": "- -", "1000 * 1000": "- -", "x * (3 + 0)": "- -", "iota[n]() * 2000000": "- -", "x % 5": "0 4", "x % -5": "- -", "x % 0": "- -", "5 % x": "- -", "x % 1000000": "0 999999", "x % 1000001": "- -", "x / 2": "- -", "abs(x)": "- -", "x < 1": "- -",
		"min(iota[n](), size[n] - 1)": "- n1-1", "min(x, 5)": "- 5", "min(5, x)": "- 5", "min(3, 7)": "3 3", "min(7, 3)": "3 3", "max(7, 3)": "7 7", "max(3, 7)": "7 7", "max(x, 5)": "5 -", "max(iota[n](), 0)": "0 -", "max(size[n], iota[n]())": "n1 n1", "min(size[n], size[m])": "- n1", "min(max(x, 0), size[n] - 1)": "- n1-1", "max(size[n], size[m])": "n1 -",
		"fold(min, 9, iota[n]())": "0 -", "fold(max, 3, #[2: 1 5])": "1 5", "fold(add, 0, #[2: 1 5])": "- -", "scan(min, iota[n]())": "0 n1-1", "scan(max, #[2: 1 5])": "1 5", "scan(add, #[2: 1 5])": "- -", "x == 1": "- -",
	} {
		l := elaborated("def f(x: [n]int, z: [m]int, i: int) = " + body)
		rs, e := ranges.Of(nil, l[0])
		r, f := ranges.Result(l, "m.f")
		if e != api.OK || f != api.OK || show(rs[0]) != want || !ranges.Equal(r, rs[0]) {
			t.Errorf("%s: %s, not %s", body, show(rs[0]), want)
		}
		nodes := elaborate.Nodes(l[0].Body)
		if len(nodes) != len(rs) {
			t.Errorf("%s: %d ranges", body, len(rs))
		}
		for i, n := range nodes { // P34.5, P34.4
			if n.Type.Elem != "int" && (rs[i].Low || rs[i].High) {
				t.Errorf("%s: %s for %s", body, show(rs[i]), n.Name)
			}
			for _, v := range append(linear.Vars(rs[i].Lo), linear.Vars(rs[i].Hi)...) {
				if v != "n1" && v != "n2" {
					t.Errorf("%s: %s", body, v)
				}
			}
		}
	}
}

func TestCalls(t *testing.T) { // P34.1, P34.6
	l := elaborated("def f(x: [n]int) = iota[n]() + 1 def g(y: [k, 2m]int) = f(y) def h(x: [n]int) = f(take[3](x)) def j(x: [n]bool) = x")
	for name, want := range map[string]string{"m.f": "1 n1", "m.g": "1 2n2", "m.h": "1 3", "m.j": "- -"} {
		if r, e := ranges.Result(l, name); show(r) != want || e != api.OK {
			t.Errorf("%s: %s %d", name, show(r), e)
		}
	}
	if r, e := ranges.Result(l, "m.z"); e != api.ErrName || r.Low {
		t.Errorf("%d", e)
	}
	bad := append(slices.Clone(l), l[0])
	if _, e := ranges.Result(bad, "m.f"); e != api.ErrArg {
		t.Errorf("%d", e)
	}
	if _, e := ranges.Of(l, l[0]); e != api.ErrArg {
		t.Errorf("%d", e)
	}
	if _, e := ranges.Of(nil, l[1]); e != api.ErrArg {
		t.Errorf("%d", e)
	}
	more := elaborated("def z(x) = x")
	more[0].Name = "k.z"
	a, _ := ranges.Of(l[:1], l[1])
	b, _ := ranges.Of(append(more, l[:1]...), l[1])
	if !slices.EqualFunc(a, b, ranges.Equal) {
		t.Error("further definitions")
	}
	// The range of a call cannot be computed for its dimensions.
	l = elaborated("def f(x: [n]int) = 100 * size[n] def g(x: [20000n]int) = f(x)")
	if r, _ := ranges.Result(l, "m.g"); show(r) != "- -" {
		t.Errorf("%s", show(r))
	}
}

func TestHyps(t *testing.T) { // P34.1
	var got []string
	for _, l := range ranges.Hyps(scheme("([n, m-2]int, [r.., 3]int) -> [n]int where n-1")) {
		got = append(got, linear.Print(l))
	}
	if !slices.Equal(got, []string{"n-1", "n", "m-2", "3", "n", "-n+4096", "-m+4098", "4093", "-n+4096"}) {
		t.Errorf("%v", got)
	}
	if ranges.Hyps(api.Scheme{}) != nil {
		t.Error("a scheme that is not valid")
	}
	hyps := ranges.Hyps(scheme("([n]int) -> int"))
	for s, want := range map[string]bool{"0 n": true, "-500000 500000": true, "-500001 0": false, "0 500001": false, "0 122n": true, "0 123n": false, "- 1": false, "1 -": false, "-1000000 0": false, "5 4": true, "0 m": false} {
		if ranges.Small(hyps, span(s)) != want {
			t.Errorf("%s", s)
		}
	}
	if ranges.Small(hyps, ranges.Range{Low: true, High: true, Lo: linear.Var("N")}) {
		t.Error("an end that is not valid")
	}
	for i, c := range []struct{ l, want string }{
		{"", "- -"}, {"1 2", "1 2"}, {"1 2, 3 4", "1 4"}, {"3 4, 1 2", "1 4"}, {"0 n, n n", "0 n"}, {"0 n, m 3", "- -"}, {"0 n, - 3", "- -"}, {"1 -, 2 -, 0 5", "0 -"}, {"n n, n n", "n n"}, {"-1000000 0, 999999 999999", "- 999999"}, {"0 n, 0 4096, -1 n", "-1 4096"},
	} {
		var l []ranges.Range
		for _, s := range strings.Split(c.l, ", ") {
			if s != "" {
				l = append(l, span(s))
			}
		}
		if got := ranges.Hull(hyps, l); show(got) != c.want {
			t.Errorf("%d: %s", i, show(got))
		}
	}
	if r := ranges.Hull(nil, []ranges.Range{{Lo: lin("n")}}); r.Lo.Terms != nil {
		t.Error("an end that is not there")
	}
	if !ranges.Equal(ranges.Range{Lo: lin("n")}, ranges.Range{}) || ranges.Equal(span("1 2"), span("1 3")) || ranges.Equal(span("1 2"), span("- 2")) || !ranges.Equal(span("n -"), span("n -")) {
		t.Error("Equal")
	}
}

func TestHull(t *testing.T) { // P34.2
	r := rand.New(rand.NewSource(1))
	ends := []string{"0", "n", "n-1", "m", "5", "-3", "n+m", "2n"}
	hyps := []api.Linear{lin("n"), lin("m-n"), lin("40-m")}
	for range 500 {
		var l []ranges.Range
		for range 1 + r.Intn(3) {
			l = append(l, span(ends[r.Intn(8)]+" "+ends[r.Intn(8)]))
		}
		hull := ranges.Hull(hyps, l)
		for range 20 {
			n := r.Intn(40)
			values := []api.Value{{Var: "n", N: n}, {Var: "m", N: n + r.Intn(41-n)}}
			value := func(l api.Linear) int { k, _ := linear.Eval(l, values); return k }
			for _, s := range l {
				lo, hi := value(s.Lo), value(s.Hi)
				if lo <= hi && (hull.Low && value(hull.Lo) > lo || hull.High && value(hull.Hi) < hi) {
					t.Fatalf("%v: %s", l, show(hull))
				}
			}
		}
	}
}

func TestSound(t *testing.T) { // P34.3
	for _, c := range []struct {
		body     string
		elements func(n int) []int
	}{
		{"reverse(iota[n]()) * -3 + size[n]", func(n int) []int { return []int{n, n - 3*(n-1)} }},
		{"update(iota[n](), 0, 5)", func(n int) []int { return []int{5, n - 1} }},
		{"index(iota[n](), size[n])", func(n int) []int { return []int{0} }},
		{"min(max(iota[n](), 2), 5)", func(n int) []int { return []int{min(max(0, 2), 5), min(max(n-1, 2), 5)} }},
		{"fold(max, 7, iota[n]() + size[n])", func(n int) []int { return []int{max(7, 2*n-1)} }},
	} {
		l := elaborated("def f(x: [n]int) = " + c.body)
		r, e := ranges.Result(l, "m.f")
		if e != api.OK {
			t.Fatalf("%s: %d", c.body, e)
		}
		for n := 1; n < 30; n++ {
			values := []api.Value{{Var: "n1", N: n}}
			lo, _ := linear.Eval(r.Lo, values)
			hi, _ := linear.Eval(r.Hi, values)
			for _, k := range c.elements(n) {
				if r.Low && k < lo || r.High && k > hi {
					t.Errorf("%s: %s for %d", c.body, show(r), n)
				}
			}
		}
	}
}
