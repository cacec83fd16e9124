package build_test

import (
	"fmt"
	"math/rand"
	"slices"
	"strings"
	"testing"

	"framewise/api"
	"framewise/build"
	"framewise/clone"
	"framewise/digest"
	"framewise/infer"
	"framewise/parser"
	"framewise/printer"
	"framewise/resolve"
	"framewise/signature"
	"framewise/types"
)

// space returns the workspace with texts, whose modules are named in front: "a: module a ..".
func space(texts ...string) build.Space {
	var s build.Space
	for _, t := range texts {
		name, text, _ := strings.Cut(t, ": ")
		var e api.Errno
		if s, e = build.Put(s, name, text); e != api.OK {
			panic(t)
		}
	}
	return s
}

// show writes a result.
func show(r build.Result) string {
	s := r.Module + " " + api.Name(r.Err)
	for _, n := range r.Lines {
		s += fmt.Sprint(" ", n)
	}
	for _, d := range r.Defs {
		text, e := types.PrintScheme(d.Scheme)
		if e != api.OK {
			text = "error"
		}
		s += "; " + d.Name + ": " + text
		if d.Scalar {
			s += " scalar"
		}
	}
	return s
}

func showAll(r build.Report) string {
	var l []string
	for _, x := range r.Results {
		l = append(l, show(x))
	}
	return strings.Join(l, "\n")
}

// equal reports whether two workspaces are equal.
func equal(a, b build.Space) bool {
	return slices.Equal(a.Texts, b.Texts) && slices.EqualFunc(a.Known, b.Known, func(x, y build.Entry) bool {
		return x.Text == y.Text && slices.Equal(x.Stamps, y.Stamps) && show(x.Result) == show(y.Result)
	})
}

func TestResults(t *testing.T) { // P58.1
	many := "b: module b export g"
	for k := range 40 {
		many += fmt.Sprintf(" def f%d(x) = x", k)
	}
	other := strings.Replace(many, "b: module b export g", "a: module a import b", 1) + " def f(x) = b.g(x)"
	for _, c := range []struct {
		texts []string
		want  string
	}{
		{[]string{"a: module a import b def f(x) = b.g(x)", "b: module b export g def g(x) = x + 1"}, "a ok; f: ([r1..]int) -> [r1..]int\nb ok; g: ([r1..]int) -> [r1..]int"},
		{[]string{"a: module a def f(x: int): int = g(x) def g(x: int, y: int) = x def e(x: int) = x def h(x: int): [1]int = fill[1](x)"}, "a type 1"},
		{[]string{"a: module a def f(x: int): int = g(x) def g(x: int) = x def e(x: int) = x * k(x) def h(x: int): [1]int = fill[1](x) def k(x: int) = h(x) def l(x: bool) = !x"}, "a ok; e: (int) -> [1]int; f: (int) -> int scalar; g: (int) -> int scalar; h: (int) -> [1]int; k: (int) -> [1]int; l: (bool) -> bool scalar"},
		// 1 to 3.
		{[]string{"a: "}, "a syntax 1"}, {[]string{"a: module a\n\ndef f(x) = \n)"}, "a syntax 4"}, {[]string{"a: module a\ndef f(x) = 1\ndef g() =\n 3000000000"}, "a syntax 4"}, {[]string{"a: module a\ndef f() = 1\ndef g(x) = #[2: 1]"}, "a limit 3"}, {[]string{"a: module b def f(x) = x"}, "a name 1"}, {[]string{"a: module b def f(x) = x def f(x) = x"}, "a name 1"}, {[]string{"a: module a\ndef f(x) = x\ndef f(x) = x"}, "a exist 3"}, {[]string{"a: module a import a def f(x) = x"}, "a exist"}, {[]string{"a: module a export g def f(x) = x"}, "a name"},
		// 4 to 6.
		{[]string{"a: module a import b def f(x) = y"}, "a none"}, {[]string{"a: module a import b, c", "b: module b import a", "c: module c import d", "e: module e import a"}, "a cycle\nb cycle\nc none\ne state"}, {[]string{"a: module a import b", "b: module b import c", "c: module c import b", "d: module d"}, "a state\nb cycle\nc cycle\nd ok"}, {[]string{"a: module a import b", "b: module b import a def"}, "a state\nb syntax 1"}, {[]string{"a: module a import b def f(x) = y", "b: module b def f(x) = x\ndef g(x) = z"}, "a state\nb name 2"},
		// 7.
		{[]string{"a: module a\ndef f(x) =\n x + y"}, "a name 3"}, {[]string{"a: module a import b\ndef f(x) = b.g(x)", "b: module b def g(x) = x"}, "a name 2\nb ok; g: ([r1..]A1) -> [r1..]A1"}, {[]string{"a: module a\ndef f(x) = g(x)\ndef g(x) = f(x)"}, "a cycle 2"},
		// 8.
		{[]string{"a: module a\ndef h(x: [n]int): [2]int = x\ndef g(x: bool) = x + 1\ndef f(x) = g(x)"}, "a type 3"}, {[]string{"a: module a def f(x) = x", "b: module b import a\ndef g(x: [n]int): [2]int\n = x"}, "a ok; f: ([r1..]A1) -> [r1..]A1\nb conflict 2"}, {[]string{"a: module a import b def f() = 1", "b: module b\ndef g(x) = x && 1"}, "a state\nb type 2"},
		// A module is as in a program of its own, however its imports are called.
		{[]string{"b: module b import z def a(x) = z.f(x) def c(x) = 1 + true def e(x) = 2 + true", "z: module z export f def f(x) = x"}, "b type 1\nz ok; f: ([r1..]A1) -> [r1..]A1"},
		{nil, ""}, {[]string{"a: module a"}, "a ok"},
	} {
		_, r := build.Build(space(c.texts...))
		if got := showAll(r); got != c.want {
			t.Errorf("%v: %s", c.texts, got)
		}
	}
	// 41 and 41 definitions are too many for a program.
	if _, r := build.Build(space(many+" def g(x) = x", other)); r.Results[0].Err != api.ErrLimit || r.Results[0].Lines != nil || r.Results[1].Err != api.OK {
		t.Errorf("%s", showAll(r))
	}
	if p, e := build.Program(space(many+" def g(x) = x", strings.ReplaceAll(strings.ReplaceAll(other, " import b", ""), "b.g", "f0"))); e != api.ErrLimit || p.Defs != nil {
		t.Errorf("%d", e)
	}
}

func TestExample(t *testing.T) { // P58.1, P58.3, P58.4
	s, r := build.Build(space("a: module a import b def f(x) = b.g(x)", "b: module b export g def g(x) = x + 1"))
	if fmt.Sprint(r.Inferred) != "[a b]" {
		t.Errorf("%v", r.Inferred)
	}
	face := digest.Of([]byte("interface b\ng: ([r1..]int) -> [r1..]int\n"))
	if len(s.Known) != 2 || fmt.Sprint(s.Known[0].Stamps) != fmt.Sprint([]build.Stamp{{Module: "b", N: face}}) || s.Known[0].Text != s.Texts[0] || show(s.Known[1].Result) != show(r.Results[1]) {
		t.Errorf("%v", s.Known)
	}
	for _, c := range []struct{ text, want string }{
		{"module b export g def g(x) = 1 + x", "[b]"}, {"module b export g def g(x) = 1 + x", "[]"}, {"module b export g\n\ndef g(x) = // one\n 1 + x", "[b]"}, {"module b export g, h def g(x) = x + 1 def h(x) = x", "[a b]"}, {"module b export h, g def g(x) = x + 1 def h(x) = x def k(x) = x", "[b]"}, {"module b export g def g(x: int) = x + 1", "[a b]"}, {"module b export g def g(x: int) = fold(add, x, #[1: 1])", "[a b]"}, {"module b export g def g(x: int) = size[1] + x", "[b]"}, {"module b export g def g(x: int) =", "[]"}, {"module b export g def g(x: bool) = x + 1", "[b]"}, {"module b export g def g(x: int) = x + 1", "[a b]"},
	} {
		s, _ = build.Put(s, "b", c.text)
		s, r = build.Build(s)
		if got := fmt.Sprint(r.Inferred); got != c.want {
			t.Errorf("%s: %s", c.text, got)
		}
	}
	if got := showAll(r); got != "a ok; f: ([r1..]int) -> [r1..]int\nb ok; g: (int) -> int scalar" {
		t.Errorf("%s", got)
	}
}

func TestKnown(t *testing.T) { // P58.1: the first entry counts
	s, _ := build.Build(space("a: module a def f(x) = x"))
	other := s.Known[0]
	other.Result = build.Result{Module: "a", Err: api.ErrFull, Lines: []int{7}}
	for _, c := range []struct {
		known []build.Entry
		want  api.Errno
	}{{[]build.Entry{s.Known[0], other}, api.OK}, {[]build.Entry{other, s.Known[0]}, api.ErrFull}} {
		out, r := build.Build(build.Space{Texts: s.Texts, Known: c.known})
		if r.Results[0].Err != c.want || len(out.Known) != 1 || out.Known[0].Result.Err != c.want || r.Inferred != nil {
			t.Errorf("%v", r)
		}
	}
	// An error of the point 8 is known, too; one ahead of it is not.
	s, r := build.Build(space("a: module a def f(x: int) = x && 1", "b: module b def g(x) = y"))
	if len(s.Known) != 1 || s.Known[0].Text.Name != "a" || fmt.Sprint(r.Inferred) != "[a]" {
		t.Errorf("%v", s.Known)
	}
	if _, r := build.Build(s); r.Inferred != nil || r.Results[0].Err != api.ErrType {
		t.Errorf("%v", r)
	}
}

func TestTexts(t *testing.T) { // P58.1
	s := space("b: x", "a: y")
	if fmt.Sprint(s) != "{[{a y} {b x}] []}" {
		t.Errorf("%v", s)
	}
	if s, e := build.Put(s, "b", "z"); fmt.Sprint(s) != "{[{a y} {b z}] []}" || e != api.OK {
		t.Errorf("%v %d", s, e)
	}
	if s, e := build.Remove(s, "a"); fmt.Sprint(s) != "{[{b x}] []}" || e != api.OK {
		t.Errorf("%v %d", s, e)
	}
	if s, e := build.Remove(s, "c"); s.Texts != nil || e != api.ErrNone {
		t.Errorf("%v %d", s, e)
	}
	var full build.Space
	for k := range 20 {
		full, _ = build.Put(full, fmt.Sprintf("m%02d", k), "")
	}
	long := strings.Repeat(" ", 20001)
	for i, c := range []struct {
		s          build.Space
		name, text string
		e          api.Errno
	}{
		{s, "", "", api.ErrArg}, {s, "A", "", api.ErrArg}, {s, "def", long, api.ErrArg}, {s, "a.b", "", api.ErrArg}, {s, "a", long, api.ErrLimit}, {s, "c", long, api.ErrLimit}, {full, "a", "", api.ErrLimit}, {full, "m07", "x", api.OK}, {full, "m07", long, api.ErrLimit}, {s, "a", long[1:], api.OK},
	} {
		if out, e := build.Put(c.s, c.name, c.text); e != c.e || e != api.OK && out.Texts != nil {
			t.Errorf("%d: %d", i, e)
		}
	}
	if len(full.Texts) != 20 {
		t.Errorf("%d", len(full.Texts))
	}
}

func TestInterface(t *testing.T) { // P58.1
	s := space("a: module a import b def f(x) = b.g(x)", "b: module b export k, g def g(x) = x + 1 def h(x) = x def k(x: int) = -x", "c: module c def f(x) = 1 +", "d: module d import c", "e: module e def f(x) = y")
	for _, c := range []struct {
		name, want string
		e          api.Errno
	}{
		{"a", "interface a\n", api.OK}, {"b", "interface b\ng: ([r1..]int) -> [r1..]int\nk: (int) -> int\n", api.OK}, {"c", "", api.ErrSyntax}, {"d", "", api.ErrState}, {"e", "", api.ErrName}, {"f", "", api.ErrNone}, {"", "", api.ErrNone},
	} {
		i, e := build.Interface(s, c.name)
		text, _ := signature.Print(i)
		if text != c.want || e != c.e {
			t.Errorf("%s: %s %d", c.name, text, e)
		}
	}
	p, e := build.Program(s)
	if len(p.Defs) != 4 || len(p.Schemes) != 4 || e != api.OK || !resolve.Valid(p) {
		t.Errorf("%v %d", p, e)
	}
	if p, e := build.Program(build.Space{}); p.Defs != nil || e != api.OK {
		t.Errorf("%v %d", p, e)
	}
}

func TestEqual(t *testing.T) { // P58.1
	_, r := build.Build(space("a: module a def f(x) = 1 + x", "b: module b\ndef g(x) = y"))
	for i, f := range []func(r *build.Report){
		func(r *build.Report) { r.Results = r.Results[:1] }, func(r *build.Report) { r.Results[0].Module = "c" }, func(r *build.Report) { r.Results[1].Err = api.ErrArg }, func(r *build.Report) { r.Results[1].Lines = nil }, func(r *build.Report) { r.Results[0].Defs = nil }, func(r *build.Report) { r.Results[0].Defs[0].Name = "g" }, func(r *build.Report) { r.Results[0].Defs[0].Scalar = true }, func(r *build.Report) { r.Results[0].Defs[0].Scheme = api.Scheme{} },
	} {
		_, other := build.Build(space("a: module a def f(x) = 1 + x", "b: module b\ndef g(x) = y"))
		if !build.Equal(r, other) {
			t.Errorf("%d: not equal", i)
		}
		if f(&other); build.Equal(r, other) {
			t.Errorf("%d: equal", i)
		}
	}
	other := r
	other.Inferred = nil
	if !build.Equal(r, other) || !build.Equal(build.Report{}, build.Report{Results: []build.Result{}}) {
		t.Error("equal reports")
	}
}

// variants returns a random text of a module.
func variants(r *rand.Rand, name string) string {
	head := "module " + name
	var imports []string
	for _, other := range []string{"a", "b", "c", "d", "e"} {
		// Most imports are such that there is no cycle.
		if other > name && r.Intn(3) == 0 || r.Intn(40) == 0 {
			imports = append(imports, other)
		}
	}
	r.Shuffle(len(imports), func(i, j int) { imports[i], imports[j] = imports[j], imports[i] })
	if len(imports) > 0 {
		head += " import " + strings.Join(imports, ", ")
	}
	head += []string{"", " export f", " export g, f", " export f, g"}[r.Intn(4)]
	call := func() string {
		if len(imports) > 0 && r.Intn(3) > 0 {
			return imports[r.Intn(len(imports))] + []string{".f", ".f", ".g"}[r.Intn(3)]
		}
		return []string{"neg", "abs", "h"}[r.Intn(3)]
	}
	param := []string{"x", "x", "x: int", "x: [n]int", "x: bool"}[r.Intn(5)]
	body := []string{"x + 1", "1 + x", "x", call() + "(x)", call() + "(x) * 2", "fold(add, 0, x)", "x + y", call() + "(x"}[r.Intn(8)]
	defs := []string{"def f(" + param + ") = " + body, "def g(x) = " + call() + "(f(x))", "def h(x) = " + []string{"x", "x - 1", "g(x)"}[r.Intn(3)]}
	r.Shuffle(3, func(i, j int) { defs[i], defs[j] = defs[j], defs[i] })
	return head + []string{" ", "\n"}[r.Intn(2)] + strings.Join(defs, []string{" ", "\n"}[r.Intn(2)])
}

func TestRandom(t *testing.T) { // P58.2, P58.3, P58.4, P58.5, P58.6
	r := rand.New(rand.NewSource(34))
	names := []string{"a", "b", "c", "d", "e"}
	good, inferred, programs := 0, 0, 0
	for range 60 {
		var s build.Space
		for range 12 {
			before := s
			name := names[r.Intn(len(names))]
			text := variants(r, name)
			s, _ = build.Put(s, name, text)
			if twice, _ := build.Put(s, name, text); !equal(s, twice) {
				t.Fatal("putting a text twice")
			}
			if removed, e := build.Remove(s, name); !hasModule(before, name) && (!equal(removed, before) || e != api.OK) {
				t.Fatal("removing undoes putting")
			}
			if r.Intn(6) == 0 {
				if removed, e := build.Remove(s, names[r.Intn(len(names))]); e == api.OK {
					s = removed
				}
			}
			if r.Intn(4) == 0 {
				continue
			}
			var report build.Report
			s, report = build.Build(s)
			again, other := build.Build(s)
			if !equal(s, again) || other.Inferred != nil || !build.Equal(report, other) {
				t.Fatalf("%v: %s, not %s", s.Texts, showAll(other), showAll(report))
			}
			fresh := fresh(r, s.Texts)
			if _, alone := build.Build(fresh); !build.Equal(report, alone) {
				t.Fatalf("%v: %s, not %s", s.Texts, showAll(report), showAll(alone))
			}
			for _, x := range report.Results {
				if x.Err == api.OK {
					good++
				}
			}
			inferred += len(report.Inferred)
			programs += checkProgram(t, s, report)
			checkFormat(t, s, report)
		}
	}
	if good < 200 || inferred < 200 || programs < 200 {
		t.Errorf("%d good, %d inferred, %d definitions", good, inferred, programs)
	}
}

func hasModule(s build.Space, name string) bool {
	return slices.ContainsFunc(s.Texts, func(t build.Text) bool { return t.Name == name })
}

// fresh puts texts in any order.
func fresh(r *rand.Rand, texts []build.Text) build.Space {
	var s build.Space
	for _, i := range r.Perm(len(texts)) {
		s, _ = build.Put(s, texts[i].Name, texts[i].Text)
	}
	return s
}

// checkProgram compares the program of a workspace with the definitions of its modules without errors, and returns how many there are.
func checkProgram(t *testing.T, s build.Space, report build.Report) int {
	t.Helper()
	p, e := build.Program(s)
	bare := clone.Program(p)
	bare.Schemes = nil
	q, _, f := infer.All(bare)
	if e != api.OK || f != api.OK || !slices.EqualFunc(p.Schemes, q.Schemes, types.EqualScheme) || len(p.Schemes) != len(p.Defs) {
		t.Fatalf("%v: %d %d", s.Texts, e, f)
	}
	count := 0
	for _, x := range report.Results {
		for _, d := range x.Defs {
			at, ok := resolve.Find(p, x.Module+"."+d.Name)
			if count++; !ok || !types.EqualScheme(p.Schemes[at], d.Scheme) {
				t.Fatalf("%v: %s", s.Texts, d.Name)
			}
		}
		if x.Err != api.OK && (x.Defs != nil || slices.ContainsFunc(p.Defs, func(d api.Def) bool { return strings.HasPrefix(d.Name, x.Module+".") })) {
			t.Fatalf("%v: %s", s.Texts, x.Module)
		}
	}
	if count != len(p.Defs) {
		t.Fatalf("%v: %d definitions", s.Texts, len(p.Defs))
	}
	return count
}

// checkFormat replaces a text of a module that is inferred by its canonical text.
func checkFormat(t *testing.T, s build.Space, report build.Report) {
	t.Helper()
	for _, x := range s.Known {
		text, _, e := printer.Format(x.Text.Text)
		if e != api.OK || text == x.Text.Text {
			continue
		}
		other, _ := build.Put(s, x.Text.Name, text)
		_, r := build.Build(other)
		if len(x.Result.Lines) == 0 && (!slices.Equal(r.Inferred, []string{x.Text.Name}) || !build.Equal(r, report)) {
			t.Fatalf("%v: %s: %s, not %s", s.Texts, x.Text.Name, showAll(r), showAll(report))
		}
	}
}

func TestMemory(t *testing.T) { // results share no memory with arguments
	s, r := build.Build(space("a: module a def f(x: [n]int): [n]int = x", "b: module b def f(x: int) = x && 1"))
	p, _ := build.Program(s)
	p.Schemes[0].Params[0].Shape.Dims[0].Terms[0].C = 7
	r.Results[0].Defs[0].Scheme.Params[0].Shape.Dims[0].Terms[0].C = 7
	r.Results[1].Lines[0] = 9
	again, other := build.Build(s)
	other.Results[0].Defs[0].Scheme.Result.Shape.Dims[0].Terms[0].C = 7
	put, _ := build.Put(again, "c", "")
	put.Known[0].Result.Defs[0].Scheme.Result.Shape.Dims[0].Terms[0].C = 7
	if _, last := build.Build(again); showAll(last) != "a ok; f: ([n1]int) -> [n1]int\nb type 1" {
		t.Errorf("%s", showAll(last))
	}
	if m, _, e := parser.Parse(s.Texts[0].Text); e != api.OK || m.Name != "a" {
		t.Errorf("%d", e)
	}
}
