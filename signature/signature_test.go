package signature_test

import (
	"fmt"
	"math/rand"
	"slices"
	"strings"
	"testing"

	"framewise/api"
	"framewise/digest"
	"framewise/infer"
	"framewise/linear"
	"framewise/parser"
	"framewise/resolve"
	"framewise/shape"
	"framewise/signature"
	"framewise/types"
)

func scheme(s string) api.Scheme {
	t, e := types.ParseScheme(s)
	if e != api.OK {
		panic(s)
	}
	return t
}

// entries returns entries from texts like "f: (int) -> int".
func entries(texts ...string) []signature.Entry {
	var l []signature.Entry
	for _, s := range texts {
		name, text, _ := strings.Cut(s, ": ")
		l = append(l, signature.Entry{Name: name, Scheme: scheme(text)})
	}
	return l
}

func face(module string, texts ...string) signature.Interface {
	return signature.Interface{Module: module, Entries: entries(texts...)}
}

// many returns so many entries.
func many(n int) []signature.Entry {
	var l []signature.Entry
	for k := range n {
		l = append(l, signature.Entry{Name: fmt.Sprintf("f%03d", k), Scheme: scheme("(int) -> int")})
	}
	return l
}

// wrong are interfaces that are not valid.
func wrong() []signature.Interface {
	bad := face("m", "f: () -> int")
	bad.Entries[0].Scheme.Result.Elem = "integer"
	return []signature.Interface{{}, face("M"), face("def"), face("m.n"), face("m", "F: () -> int"), face("m", "let: () -> int"), face("m", "f: () -> int", "f: () -> int"), face("m", "g: () -> int", "f: () -> int"), bad, {Module: "m", Entries: many(61)}}
}

func TestValid(t *testing.T) { // P57.1
	for i, x := range wrong() {
		if signature.Valid(x) {
			t.Errorf("%d", i)
		}
		s, e := signature.Print(x)
		n, f := signature.Digest(x)
		k, g := signature.Stamp(x, "f")
		out, h := signature.Narrow(x, nil)
		if e != api.ErrArg || f != api.ErrArg || g != api.ErrArg || h != api.ErrArg || s != "" || n != 0 || k != 0 || out.Module != "" {
			t.Errorf("%d: %d %d %d %d", i, e, f, g, h)
		}
		if _, ok := signature.Find(x, "f"); ok {
			t.Errorf("%d: found", i)
		}
		for _, pair := range [][2]signature.Interface{{x, face("m")}, {face("m"), x}} {
			if l, e := signature.Diff(pair[0], pair[1]); l != nil || e != api.ErrArg || signature.Compatible(pair[0], pair[1]) {
				t.Errorf("%d: %v %d", i, l, e)
			}
		}
	}
	for i, x := range []signature.Interface{face("m"), face("m", "f: () -> int", "g: ([k]A) -> A where 3, k-1"), {Module: "m", Entries: many(60)}} {
		if !signature.Valid(x) {
			t.Errorf("%d", i)
		}
	}
	x := face("m", "f: () -> int")
	for i, y := range []signature.Interface{face("n", "f: () -> int"), face("m"), face("m", "g: () -> int"), face("m", "f: () -> bool"), face("m", "f: () -> int", "g: () -> int")} {
		if signature.Equal(x, y) || !signature.Equal(y, y) {
			t.Errorf("%d", i)
		}
	}
	if !signature.Equal(signature.Interface{Entries: []signature.Entry{}}, signature.Interface{}) {
		t.Error("nil and empty lists")
	}
}

func TestMake(t *testing.T) { // P57.1, P57.2
	i, e := signature.Make("m", entries("g: ([b, a]B, [q..]A) -> [q..]B where 7, -a+b, 0", "f: ([k]A) -> A"))
	if text, f := signature.Print(i); text != "interface m\nf: ([n1]A1) -> A1\ng: ([n1, n2]A1, [r1..]A2) -> [r1..]A1 where n1-n2\n" || e != api.OK || f != api.OK {
		t.Errorf("%s %d %d", text, e, f)
	}
	bad := entries("f: () -> int")
	bad[0].Scheme.Result.Elem = "a"
	for k, c := range []struct {
		module string
		l      []signature.Entry
		e      api.Errno
	}{
		{"", nil, api.ErrArg}, {"true", nil, api.ErrArg}, {"m", entries("m.f: () -> int"), api.ErrArg}, {"m", append(entries("f: () -> int"), bad...), api.ErrArg}, {"m", entries("f: () -> int", "g: () -> int", "f: () -> bool"), api.ErrExist}, {"m", many(61), api.ErrLimit}, {"m", append(many(61), many(1)...), api.ErrExist}, {"m", append(many(61), bad...), api.ErrArg}, {"m", many(60), api.OK}, {"m", nil, api.OK},
	} {
		if i, e := signature.Make(c.module, c.l); e != c.e || (e == api.OK) != signature.Valid(i) || e != api.OK && (i.Module != "" || i.Entries != nil) {
			t.Errorf("%d: %v %d", k, i, e)
		}
	}
	// The names of variables do not matter, as far as their order stays the same.
	one, _ := signature.Make("m", entries("f: ([a, b]int, [n]A) -> [m]A where a+b-m"))
	two, _ := signature.Make("m", entries("f: ([c, g]int, [x]B) -> [w]B where c+g-w"))
	if !signature.Equal(one, two) {
		t.Errorf("%v %v", one, two)
	}
}

func TestOf(t *testing.T) { // P57.1
	m, _, _ := parser.Parse("module m export g, f, h def f(x: [n]int) = x + 1 def g(x) = x def h(x) = k(x) def k(x) = f(x)")
	p, _, e := resolve.Resolve([]api.Module{m})
	if e != api.OK {
		t.Fatalf("%d", e)
	}
	p, _, e = infer.All(p)
	i, f := signature.Of(m, p)
	if text, _ := signature.Print(i); text != "interface m\nf: ([n1]int) -> [n1]int\ng: ([r1..]A1) -> [r1..]A1\nh: ([r1.., n1]int) -> [r1.., n1]int\n" || e != api.OK || f != api.OK {
		t.Errorf("%s %d %d", text, e, f)
	}
	few, bad, other, broken, twice := p, p, m, p, m
	few.Schemes = p.Schemes[:3] // m.f, m.g, m.k
	bad.Schemes = slices.Clone(p.Schemes)
	bad.Schemes[1] = api.Scheme{}
	other.Name = "n"
	broken.Defs = slices.Repeat(p.Defs, 2)
	twice.Exports = []string{"f", "f"}
	none := m
	none.Exports = nil
	both := bad
	both.Schemes = bad.Schemes[:2]
	for k, c := range []struct {
		m api.Module
		p api.Program
		e api.Errno
	}{
		{m, few, api.ErrName}, {m, bad, api.ErrArg}, {other, p, api.ErrName}, {m, broken, api.ErrArg}, {twice, p, api.ErrArg}, {api.Module{}, p, api.ErrArg}, {m, api.Program{}, api.ErrName}, {none, api.Program{}, api.OK}, {m, both, api.ErrArg}, {m, api.Program{Defs: p.Defs}, api.ErrName},
	} {
		if i, e := signature.Of(c.m, c.p); e != c.e || e != api.OK && (i.Module != "" || i.Entries != nil) {
			t.Errorf("%d: %d", k, e)
		}
	}
}

func TestNames(t *testing.T) { // P57.1, P57.6
	i := face("m", "a: () -> int", "b: () -> bool", "c: ([n]A) -> A")
	if s, ok := signature.Find(i, "b"); !ok || !types.EqualScheme(s, scheme("() -> bool")) {
		t.Errorf("%v", s)
	}
	if s, ok := signature.Find(i, "d"); ok || !types.EqualScheme(s, api.Scheme{}) {
		t.Errorf("%v", s)
	}
	n, e := signature.Stamp(i, "c")
	if n != digest.Of([]byte("c: ([n]A) -> A\n")) || e != api.OK {
		t.Errorf("%d", e)
	}
	if n, e := signature.Stamp(i, "d"); n != 0 || e != api.ErrName {
		t.Errorf("%d", e)
	}
	if n, e := signature.Digest(i); n != digest.Of([]byte("interface m\na: () -> int\nb: () -> bool\nc: ([n]A) -> A\n")) || e != api.OK {
		t.Errorf("%d", e)
	}
	for _, c := range []struct {
		names, want string
		e           api.Errno
	}{{"", "", api.OK}, {"c a c", "a c", api.OK}, {"c b a", "a b c", api.OK}, {"a d", "", api.ErrName}, {"a ", "a", api.OK}} {
		out, e := signature.Narrow(i, strings.Fields(c.names))
		var got []string
		for _, x := range out.Entries {
			got = append(got, x.Name)
		}
		if strings.Join(got, " ") != c.want || e != c.e || (e == api.OK) != (out.Module == "m") {
			t.Errorf("%s: %v %d", c.names, got, e)
		}
	}
}

func TestTexts(t *testing.T) { // P57.3
	valid := []signature.Interface{face("m"), face("m", "f: () -> int"), face("abc", "f: ([r.., n]A, int) -> [n-1, 2]A where n-1", "g: () -> bool"), {Module: "m", Entries: many(60)}}
	for _, i := range valid {
		text, e := signature.Print(i)
		j, f := signature.Parse(text)
		if !signature.Equal(i, j) || e != api.OK || f != api.OK {
			t.Errorf("%s %d %d", text, e, f)
		}
		// Whatever is accepted is the text of the result.
		for at := range text {
			for _, s := range []string{text[:at], text[:at] + text[at+1:], text[:at] + "\n" + text[at:], text[:at] + " " + text[at:], text[:at] + "n" + text[at+1:]} {
				j, e := signature.Parse(s)
				again, f := signature.Print(j)
				if e == api.OK && (again != s || f != api.OK) || e != api.OK && (e != api.ErrSyntax || j.Module != "") {
					t.Fatalf("%q: %d", s, e)
				}
			}
		}
	}
	for i, s := range []string{"", "interface m", "interface M\n", "m\n", "interface  m\n", "interface m\n\n", "interface m\nf: () -> int", "interface m\nf () -> int\n", "interface m\nf:() -> int\n", "interface m\ng: () -> int\nf: () -> int\n", "interface m\nf: () -> int\nf: () -> int\n", "interface m\nf: () -> [n+0]int\n", strings.Repeat("interface m\n", 2)} {
		if j, e := signature.Parse(s); e != api.ErrSyntax || j.Module != "" || j.Entries != nil {
			t.Errorf("%d: %d", i, e)
		}
	}
	long := "interface m\n"
	for _, x := range many(61) {
		long += x.Name + ": (int) -> int\n"
	}
	if _, e := signature.Parse(long); e != api.ErrSyntax {
		t.Errorf("%d", e)
	}
}

func TestDiff(t *testing.T) { // P57.1, P57.4, P57.5
	before := face("m", "a: () -> int", "b: ([3]int) -> int", "c: (int) -> int", "d: ([n]A) -> A", "f: ([n]int) -> int where n-1")
	after := face("m", "a: () -> int", "b: ([n]A) -> A", "c: (bool) -> bool", "e: () -> int", "f: ([k]int) -> int")
	l, e := signature.Diff(before, after)
	if fmt.Sprint(l) != fmt.Sprint([]signature.Change{{Name: "b", Kind: signature.Widened}, {Name: "c", Kind: signature.Changed}, {Name: "d", Kind: signature.Removed}, {Name: "e", Kind: signature.Added}, {Name: "f", Kind: signature.Widened}}) || e != api.OK {
		t.Errorf("%v %d", l, e)
	}
	if signature.Compatible(before, after) {
		t.Error("compatible")
	}
	for i, c := range []struct {
		before, after signature.Interface
		want          bool
	}{
		{face("m"), face("m"), true}, {face("m"), face("n"), false}, {face("m"), face("m", "f: () -> int"), true}, {face("m", "f: () -> int"), face("m"), false}, {face("m", "f: (int) -> int"), face("m", "f: ([r..]int) -> [r..]int"), true}, {face("m", "f: ([r..]int) -> [r..]int"), face("m", "f: (int) -> int"), false}, {face("m", "f: ([n]A) -> A"), face("m", "f: ([k]B) -> B"), true}, {face("m", "f: ([n]int) -> int"), face("m", "f: ([n]int) -> int where n-1"), false}, {face("m", "f: ([n]int) -> int where n-2"), face("m", "f: ([n]int) -> int where n-1"), true},
	} {
		if signature.Compatible(c.before, c.after) != c.want {
			t.Errorf("%d", i)
		}
	}
	// Schemes that are equal up to names are instances of each other.
	if l, _ := signature.Diff(face("m", "f: ([n]A) -> A"), face("m", "f: ([k]B) -> B")); fmt.Sprint(l) != fmt.Sprint([]signature.Change{{Name: "f", Kind: signature.Widened}}) {
		t.Errorf("%v", l)
	}
}

// randomScheme returns a scheme that others may have as an instance.
func randomScheme(r *rand.Rand) string {
	return []string{"(int) -> int", "([n]int) -> int", "([3]int) -> int", "([r..]int) -> [r..]int", "([r..]A) -> [r..]A", "([n]A) -> A", "([n, k]A) -> [k]A", "([n]int) -> int where n-2", "() -> bool", "([n]int, [n]int) -> [2n]int", "([n]int, [k]int) -> [k+n]int"}[r.Intn(11)]
}

func random(r *rand.Rand, module string) signature.Interface {
	var texts []string
	for _, name := range []string{"a", "b", "c", "d", "e"} {
		if r.Intn(3) > 0 {
			texts = append(texts, name+": "+randomScheme(r))
		}
	}
	return face(module, texts...)
}

func TestRandom(t *testing.T) { // P57.2, P57.3, P57.4, P57.5, P57.6
	r := rand.New(rand.NewSource(33))
	kinds := map[int]int{}
	opposite := map[int]int{signature.Added: signature.Removed, signature.Removed: signature.Added}
	for range 2000 {
		a, b := random(r, "m"), random(r, []string{"m", "m", "n"}[r.Intn(3)])
		shuffled := slices.Clone(a.Entries)
		r.Shuffle(len(shuffled), func(i, j int) { shuffled[i], shuffled[j] = shuffled[j], shuffled[i] })
		one, e := signature.Make("m", a.Entries)
		two, f := signature.Make("m", shuffled)
		x, _ := signature.Digest(one)
		y, _ := signature.Digest(two)
		if !signature.Equal(one, two) || e != api.OK || f != api.OK || x != y {
			t.Fatalf("%v %v", one, two)
		}
		if l, e := signature.Diff(a, a); l != nil || e != api.OK || !signature.Compatible(a, a) {
			t.Fatalf("%v %d", l, e)
		}
		there, _ := signature.Diff(a, b)
		back, _ := signature.Diff(b, a)
		if len(there) != len(back) {
			t.Fatalf("%v, %v", there, back)
		}
		for i, c := range there {
			kinds[c.Kind]++
			if k, ok := opposite[c.Kind]; back[i].Name != c.Name || ok && back[i].Kind != k || !ok && opposite[back[i].Kind] != 0 {
				t.Fatalf("%v, %v", there, back)
			}
		}
		more := a
		more.Entries = append(slices.Clone(a.Entries), entries("z: "+randomScheme(r))...)
		if !signature.Compatible(a, more) || signature.Compatible(more, a) {
			t.Fatalf("%v", a)
		}
		var names []string
		for _, x := range a.Entries {
			names = append(names, x.Name)
		}
		if all, e := signature.Narrow(a, names); !signature.Equal(all, a) || e != api.OK {
			t.Fatalf("%v %d", all, e)
		}
		checkNarrow(t, a, b, there)
	}
	for _, k := range []int{signature.Added, signature.Removed, signature.Widened, signature.Changed} {
		if kinds[k] < 100 {
			t.Errorf("%v", kinds)
		}
	}
}

// checkNarrow narrows two interfaces to some names that both have.
func checkNarrow(t *testing.T, a, b signature.Interface, changes []signature.Change) {
	t.Helper()
	var names []string
	for i, x := range a.Entries {
		if _, ok := signature.Find(b, x.Name); ok && i%2 == 0 {
			names = append(names, x.Name)
		}
	}
	c, e := signature.Narrow(a, names)
	d, f := signature.Narrow(b, names)
	got, g := signature.Diff(c, d)
	want := slices.DeleteFunc(slices.Clone(changes), func(c signature.Change) bool { return !slices.Contains(names, c.Name) })
	if !slices.Equal(got, want) || e != api.OK || f != api.OK || g != api.OK {
		t.Fatalf("%v, not %v", got, want)
	}
}

func TestMemory(t *testing.T) { // results share no memory with arguments
	i := face("m", "f: ([n]int) -> [n]int where n-1")
	made, _ := signature.Make("m", i.Entries)
	found, _ := signature.Find(i, "f")
	narrow, _ := signature.Narrow(i, []string{"f"})
	for _, s := range []api.Scheme{made.Entries[0].Scheme, found, narrow.Entries[0].Scheme} {
		s.Params[0].Shape.Dims[0] = linear.Of(7)
		s.Where[0] = linear.Of(8)
		s.Result.Shape.Dims[0].Terms[0].C = 9
	}
	if text, _ := signature.Print(i); text != "interface m\nf: ([n]int) -> [n]int where n-1\n" || !shape.Equal(i.Entries[0].Scheme.Result.Shape, api.Shape{Dims: []api.Linear{linear.Var("n")}}) {
		t.Errorf("%s", text)
	}
}
