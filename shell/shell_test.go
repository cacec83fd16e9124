package shell_test

import (
	"math/rand"
	"slices"
	"strings"
	"testing"

	"framewise/api"
	"framewise/build"
	"framewise/image"
	"framewise/shell"
)

// check compares what lines print with what they should: a line of the console begins with "> ".
func check(t *testing.T, text string) {
	t.Helper()
	var lines, want []string
	for line := range strings.SplitSeq(strings.Trim(text, "\n"), "\n") {
		if command, ok := strings.CutPrefix(line, "> "); ok {
			lines = append(lines, command)
		} else {
			want = append(want, line)
		}
	}
	if got := shell.Run(lines); !slices.Equal(got, want) {
		t.Errorf("%s", strings.Join(got, "\n"))
	}
}

func TestExamples(t *testing.T) { // P60.1, and the examples of the document
	check(t, `
> put m module m;def f(x) = x + 1
ok
> type m.f
m.f: ([r1..]int) -> [r1..]int
> run m.f #[2: 1 2]
#[2: 2 3]
> compile m.f #[2: 1 2]
reads 2 writes 2 ops 2 peak 2 proof 0
> put m module m;def inc(x) = x + 1;def sum(x: [n]int) = fold(add, 0, x);def rows(y: [k, n]int) = sum(y);def pairs(x: [n]int) = windows[2](x)
ok
> type m.inc
m.inc: ([r1..]int) -> [r1..]int
> run m.inc #[2 2: 1 2 3 4]
#[2 2: 2 3 4 5]
> type m.sum
m.sum: ([n1]int) -> int
> type m.rows
m.rows: ([n1, n2]int) -> [n1]int
> type m.pairs
m.pairs: ([n1]int) -> [n1-1, 2]int where n1-2, n1-1
> flat m.rows #[2 3: 1 2 3 4 5 6]
steps 0
v0: [n1, n2]int
v1: int = const()
v2: [n1]int = fold(v1, v0@0)
result v2
> put m module m;;def h(x: [n]int): [2]int = x
ok
> build
m error conflict lines 3
> put m module m;def f(x: [n]int) = index(x, iota[n]());def at(x: [n]int, i) = index(x, i)
ok
> run m.f #[3: 5 6 7]
#[3: 5 6 7]
> run m.at #[3: 5 6 7] / #[2: 0 3]
#[2: 5 0]
checks 1
> put m module m;def f(x) = (x + 0) * 1;def sq(x: [n]int) = x * x;def g(x: [n]int) = fold(add, 0, sq(x));def two(x) = x * 2
ok
> flat m.f #[: 1]
steps 6
v0: int
result v0
> compile m.sq #[3: 1 2 3]
reads 6 writes 3 ops 3 peak 3 proof 0
> compile m.g #[4: 1 2 3 4]
reads 8 writes 1 ops 8 peak 5 proof 0
> compile m.two #[2: 1 2]
reads 2 writes 2 ops 2 peak 2 proof 0
> call m.g #[4: 1 2 3 4]
#[: 30]
> images
m.f r1d1=2
m.g n1=4
m.sq n1=3
m.two r1d1=2
`)
}

func TestModules(t *testing.T) { // P60.1
	check(t, `
> put a module a import b // ;def f(x)=b.g(x)+1;
ok
> build
a error none
> put b module b export g;def g(x: int) = x def h(x) = 1 + true
ok
> build
a error state
b error type lines 2
> interface b
error type
> interface a
error state
> put b module b export h, g;def g(x: int) = x def h(x, y) = [x, y]
ok
> build
a ok inferred
b ok inferred
> build
a ok
b ok
> put b module b export g, h;def g(x: int) = 0 + x def h(x, y) = [y, x]
ok
> build
a ok
b ok inferred
> interface b
interface b
g: (int) -> int
h: ([r1..]A1, [r1..]A1) -> [r1.., 2]A1
> interface a
interface a
> interface c
error none
> format a
module a
import b
def f(x) = b.g(x) + 1
> format c
error none
> type a.f
a.f: ([r1..]int) -> [r1..]int
> type a.g
error name
> type c.f
error name
> put c module c;def f(x =
ok
> format c
error syntax
> build
a ok
b ok
c error syntax lines 2
> remove c
ok
> remove c
error none
> remove a
ok
> build
b ok
> put b 
ok
> build
b error syntax lines 1
> put c module b
ok
> put d module d;def f(x) = x;def f(x) = x;def g(x) = y
ok
> put e module e import e
ok
> build
b error syntax lines 1
c error name lines 1
d error exist lines 3
e error exist
> type d.f
error name
`)
}

func TestPrograms(t *testing.T) { // P60.1
	check(t, `
> run m.f
error name
> flat m.f
error name
> compile m.f
error name
> call m.f
error none
> forget m.f
error none
> images
> put m module m;def f(x: [n]int, y: [n]A0) = x
ok
> run m.f #[2: 1 2] / #[2: 1 2]
error name
> put m module m;def f(x: [n]int, y: [n]int) = x + y;def c() = [true, false];def t(x: [n]A, i: int) = index(x, i);def s(x, y) = select(x, y, y)
ok
> run m.c
error name
> build
m error syntax lines 4
> put m module m;def f(x: [n]int, y: [n]int) = x + y;def c() = [true, false];def t(x: [n]int, i: int) = index(reverse(x), i);def s(x, y) = select(x, y, y)
ok
> run m.c
#b[2: 1 0]
> run m.c #[: 1]
error arg
> flat m.c #[: 1]
error arg
> compile m.c #[: 1]
error arg
> compile m.c
reads 0 writes 2 ops 0 peak 2 proof 3
> run m.f #[2: 1 2] / #[3: 1 2 3]
error shape
> flat m.f #[2: 1 2] / #b[2: 1 0]
error type
> compile m.f #[2: 1 2] / #[2 2: 1 2 3 4]
error rank
> compile m.f #[2: 1 2] / #[2: 3 4]
reads 4 writes 2 ops 2 peak 4 proof 0
> call m.f #[3: 1 2 3] / #[3: 3 4 5]
error shape
> call m.f #[2: 1 2]
error arg
> call m.f #[2: 1 2] / #[2: -3 4]
#[2: -2 6]
> compile m.t #[2: 1 2] / #[: 2]
reads 4 writes 3 ops 0 peak 5 proof 0
> call m.t #[2: 1 2] / #[: 1]
#[: 1]
> call m.t #[2: 1 2] / #[: -1]
#[: 0]
checks 1
> compile m.s #b[2 1: 0 1] / #b[2 1: 1 0]
reads 6 writes 2 ops 2 peak 4 proof 0
> images
m.c
m.f n1=2
m.s r1d1=2 r1d2=1
m.t n1=2
> compile m.s #b[3: 0 1 0] / #[3: 1 0 7]
reads 9 writes 3 ops 3 peak 6 proof 0
> forget m.f
ok
> call m.f #[2: 1 2] / #[2: 3 4]
error none
> remove m
ok
> call m.s #b[3: 0 1 0] / #[3: 1 0 7]
#[3: 1 0 7]
> images
m.c
m.s r1d1=3
m.t n1=2
> run m.s #b[3: 0 1 0] / #[3: 1 0 7]
error name
> put m module m;def f(x: [n]int) = fill[k](x)
ok
> build
m error name lines 2
> put m module m;def big(x: [n]int) = fill[4096](x)
ok
> run m.big #[2: 1 2]
error limit
> compile m.big #[2: 1 2]
error limit
> flat m.big #[2: 1 2]
steps 0
v0: [n1]int
v1: [n1, 4096]int = fill(v0@0)
result v1
`)
}

func TestLines(t *testing.T) { // P60.1
	check(t, "> put m module m;def f(x) = x def g() = 1\nok\n> // a comment\n> //\n> ")
	for _, line := range []string{
		" ", "puts", "Put m module m", " put m module m", "put", "put ", "put m", "put  m module m", "put M module m", "put def x", "put a.b x", "remove", "remove ", "remove m ", "remove  m", "remove M", "build ", "build m", "builds", "format", "format ", "format m.f", "interface", "interface m ", "type", "type ", "type m", "type m.f ", "type m.f #[: 1]", "type def.f", "flat", "flat m", "flat m.f ", "flat m.f  #[: 1]", "run", "run ", "run m.f ", "run m.f #[: 1] ", "run m.f #[: 1]/#[: 1]", "run m.f #[: 1] /#[: 1]", "run m.f #[: 1] / ", "run m.f #[: 1] / 1", "run m.f #[:1]", "run m.f #[: 01]", "run m.f #[4097:]", "run m.f #b[: 2]", "run m.f #[: 1]  / #[: 1]", "run m #[: 1]", "run m.f / #[: 1]", "compile", "compile m.f ", "call", "call m.f x", "call f", "forget", "forget m", "forget m.f ", "forget m.f #[: 1]", "images ", "images m", "/ / comment", "/", "exit",
	} {
		s, out := shell.Exec(shell.State{}, "put m module m;def f(x) = x")
		_, got := shell.Exec(s, line)
		if !slices.Equal(out, []string{"ok"}) || !slices.Equal(got, []string{"error syntax"}) {
			t.Errorf("%q: %v", line, got)
		}
	}
	long := "put m " + strings.Repeat(";", shell.MaxLine-6)
	if got := shell.Run([]string{long, long + ";", "//" + long, strings.Repeat("x", shell.MaxLine+1), strings.Repeat("x", shell.MaxLine)}); !slices.Equal(got, []string{"ok", "error limit", "error limit", "error limit", "error syntax"}) {
		t.Errorf("%v", got)
	}
	var many []string
	for k := range 21 {
		many = append(many, "put m"+string(rune('a'+k))+" x")
	}
	if got := shell.Run(many); !slices.Equal(got[18:], []string{"ok", "ok", "error limit"}) {
		t.Errorf("%v", got)
	}
	if got := shell.Run(nil); got != nil {
		t.Errorf("%v", got)
	}
}

func TestGreat(t *testing.T) { // P60.1: the errors of the program come first
	var lines []string
	for _, m := range []string{"a", "b", "c"} {
		text := "put " + m + " module " + m
		for k := range 25 {
			text += ";def f" + string(rune('a'+k)) + "(x) = x"
		}
		lines = append(lines, text)
	}
	lines = append(lines, "type a.fa", "type z.z", "run z.z", "flat z.z", "compile z.z", "interface a")
	got := shell.Run(lines)
	if !slices.Equal(got[3:9], []string{"error limit", "error limit", "error limit", "error limit", "error limit", "interface a"}) {
		t.Errorf("%v", got)
	}
}

// equal reports whether two states are equal.
func equal(a, b shell.State) bool {
	return slices.Equal(a.Space.Texts, b.Space.Texts) && equalKnown(a, b) && slices.EqualFunc(a.Images, b.Images, image.Equal)
}

func equalKnown(a, b shell.State) bool {
	return slices.EqualFunc(a.Space.Known, b.Space.Known, func(x, y build.Entry) bool {
		r, s := build.Report{Results: []build.Result{x.Result}}, build.Report{Results: []build.Result{y.Result}}
		return x.Text == y.Text && slices.Equal(x.Stamps, y.Stamps) && build.Equal(r, s)
	})
}

// randomLine returns a random line.
func randomLine(r *rand.Rand) string {
	pick := func(l ...string) string { return l[r.Intn(len(l))] }
	name, full := pick("a", "a", "a", "b", "c"), pick("a.f", "a.f", "a.g", "b.f")
	arrays := func() string {
		one := func() string {
			return pick("#[3: 1 2 3]", "#[3: 1 2 3]", "#[3: 4 -5 6]", "#[2: -1 5]", "#[: 7]", "#[: 1]", "#b[3: 1 0 1]", "#[2 3: 1 2 3 4 5 6]", "#[0:]")
		}
		if r.Intn(3) > 0 {
			return pick(" #[3: 1 2 3] / #[: 1]", " #[3: 1 2 3] / #[: 3]", " #[3: 1 2 3] / #[3: 0 4 1]", " #[2: 1 2] / #[2: 0 -1]")
		}
		return pick("", " "+one(), " "+one()+" / "+one(), " "+one()+" / "+one(), " "+one()+" / "+one(), " "+one()+" / "+one())
	}
	text := func() string {
		body := func() string {
			return pick("x + y", "x * 2 - y", "index(x, y)", "fold(add, 0, x) + y", "update(x, y, 1)", "x", "scan(max, x)", "reverse(x) - y", "select(x == y, x, y)", "x - 3", "[x, y", "x && y", "h(x)")
		}
		if r.Intn(5) > 0 {
			return "module " + name + " export f" + pick(";def f(x: [n]int, y) = index(x, y);def g(x, y) = x + y", ";def f(x: [n]int, y: int) = update(x, y, 1) def g(x, y) = f(x, y)", ";def f(x: [n]int, y: [n]int) = scan(add, x * y) def g(x, y) = select(x == y, x, y)")
		}
		return "module " + name + pick("", "", "", " import b", " export f") + ";def f(x, y) = " + body() + pick(";", " ") + "def g(x" + pick("", ": [n]int", ": int") + ", y) = " + body()
	}
	switch pick("put", "remove", "build", "format", "interface", "type", "flat", "run", "run", "compile", "compile", "call", "call", "forget", "images", "other") {
	case "put":
		return "put " + name + " " + text()
	case "remove":
		if r.Intn(4) > 0 {
			return ""
		}
		return "remove " + name
	case "build":
		return "build"
	case "format":
		return "format " + name
	case "interface":
		return "interface " + name
	case "type":
		return "type " + full
	case "flat":
		return "flat " + full + arrays()
	case "run":
		return "run " + full + arrays()
	case "compile":
		return "compile " + full + arrays()
	case "call":
		return "call " + full + arrays()
	case "forget":
		if r.Intn(4) > 0 {
			return "//"
		}
		return "forget " + full
	case "images":
		return "images"
	}
	return pick("", "// x", "x", "run", "put a", "type a")
}

func TestRandom(t *testing.T) { // P60.2, P60.3, P60.4, P60.5
	r := rand.New(rand.NewSource(35))
	changes := []string{"put", "remove", "build", "compile", "forget"}
	compared, failed := 0, 0
	for range 60 {
		var s shell.State
		var lines, all []string
		for range 40 {
			line := randomLine(r)
			before, _ := shell.Exec(s, "//")
			next, out := shell.Exec(s, line)
			if !equal(before, s) {
				t.Fatalf("%q changes its argument", line)
			}
			command, rest, _ := strings.Cut(line, " ")
			isError := len(out) == 1 && strings.HasPrefix(out[0], "error ")
			if isError {
				failed++
			}
			if (isError || !slices.Contains(changes, command)) && !equal(next, s) {
				t.Fatalf("%q changes the state", line)
			}
			if command == "build" {
				if !slices.Equal(next.Space.Texts, s.Space.Texts) || !slices.EqualFunc(next.Images, s.Images, image.Equal) {
					t.Fatalf("%q changes more than what is known", line)
				}
				if last, out := shell.Exec(next, "build"); !equal(last, next) || slices.ContainsFunc(out, func(l string) bool { return strings.HasSuffix(l, "inferred") }) {
					t.Fatalf("a second build: %v", out)
				}
			}
			if command == "compile" && !isError {
				_, want := shell.Exec(next, "run "+rest)
				_, got := shell.Exec(next, "call "+rest)
				if !strings.HasPrefix(want[0], "error ") && got[0] != "error limit" {
					if compared++; !slices.Equal(got, want) {
						t.Fatalf("%q: %v, not %v", line, got, want)
					}
				}
			}
			s, lines, all = next, append(lines, line), append(all, out...)
		}
		if got := shell.Run(lines); !slices.Equal(got, all) {
			t.Fatalf("%v", lines)
		}
	}
	if compared < 30 || failed < 200 {
		t.Errorf("%d images, %d errors", compared, failed)
	}
}

func TestStates(t *testing.T) { // states that no lines lead to
	s := shell.State{Images: []image.Image{{}, {Name: "m.f"}}}
	for _, line := range []string{"images", "call m.f", "run m.f", "build", "type m.f", "forget m.f", "compile m.f"} {
		shell.Exec(s, line)
	}
	if api.Name(api.ErrNone) != "none" {
		t.Error("names of errors")
	}
}
