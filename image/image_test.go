package image_test

import (
	"fmt"
	"slices"
	"strings"
	"testing"

	"framewise/api"
	"framewise/array"
	"framewise/bounds"
	"framewise/bytecode"
	"framewise/clone"
	"framewise/digest"
	"framewise/elaborate"
	"framewise/exec"
	"framewise/image"
	"framewise/parser"
	"framewise/resolve"
	"framewise/sample"
	"framewise/verify"
	"framewise/wire"
)

// bounded returns the bounded definitions of the module m.
func bounded(text string) []api.Typed {
	m, at, e := parser.Parse("module m " + text)
	if e != api.OK {
		panic(fmt.Sprint(text, at, e))
	}
	p, fault, e := resolve.Resolve([]api.Module{m})
	if e != api.OK {
		panic(fmt.Sprint(text, fault, e))
	}
	l, lines, e := elaborate.All(p)
	if e != api.OK {
		panic(fmt.Sprint(text, lines, e))
	}
	if l, e = bounds.Bound(l); e != api.OK {
		panic(text)
	}
	return l
}

// show writes an image without its code.
func show(i image.Image) string {
	return fmt.Sprintln(i.Name, i.Ranks, i.Elems, i.Dims, i.Proof, i.Counts)
}

func TestMake(t *testing.T) { // P59.1, P59.3
	for k, c := range []struct {
		text, name string
		ranks      []int
		elems      []string
		dims, want string
	}{
		{"def sq(x: [n]int) = x * x", "m.sq", nil, nil, "n1=3", "m.sq [] [] [{n1 3}] 0 {6 3 3 3}"},
		{"def sq(x: [n]int) = x * x def f(x: [n]int) = fold(add, 0, sq(x))", "m.f", nil, nil, "n1=4", "m.f [] [] [{n1 4}] 0 {8 1 8 5}"},
		{"def f(x) = (x + 0) * 1", "m.f", []int{2}, nil, "r1d1=2 r1d2=3", "m.f [2] [] [{r1d1 2} {r1d2 3}] 6 {0 0 0 6}"},
		{"def f(x, y) = select(x, y, y)", "m.f", []int{1}, []string{"bool"}, "r1d1=2", "m.f [1] [bool] [{r1d1 2}] 0 {6 2 2 4}"},
		{"def f() = 7", "m.f", nil, nil, "", "m.f [] [] [] 0 {0 1 0 1}"},
		{"def f(x: [n]int, y: [n]int) = x", "m.f", nil, nil, "n1=0", "m.f [] [] [{n1 0}] 0 {0 0 0 0}"},
	} {
		i, stage, e := image.Make(bounded(c.text), c.name, c.ranks, c.elems, sample.Values(c.dims))
		if show(i) != c.want+"\n" || stage != 0 || e != api.OK || !image.Valid(i) {
			t.Errorf("%d: %s %d %d", k, show(i), stage, e)
		}
		if _, e := verify.Verify(i.Code); e != api.OK || i.Counts.Peak != i.Code.Arena {
			t.Errorf("%d: not verified", k)
		}
	}
}

func TestStages(t *testing.T) { // P59.1
	l := bounded("def f(x: [n]int, y: [k]int) = take[2](append(x, y)) def g(x) = x def h(x: [n]int) = index(x, 2)")
	unfused := bounded("def f(x: [n]int) = x")
	unfused[0].Scheme.Params[0].Shape.Dims = sample.Linears("i1")
	unfused[0].Scheme.Result.Shape.Dims = sample.Linears("i1")
	unfused[0].Body.Type.Shape.Dims = sample.Linears("i1")
	checked := slices.Clone(l)
	for k, t := range checked {
		if t.Name == "m.h" {
			checked[k] = clone.Typed(t)
			checked[k].Body.Check = 1000001
		}
	}
	for k, c := range []struct {
		l     []api.Typed
		name  string
		ranks []int
		elems []string
		dims  string
		stage int
		e     api.Errno
	}{
		{[]api.Typed{{}}, "m.f", nil, nil, "", image.Flatten, api.ErrArg}, {l, "m.e", nil, nil, "", image.Flatten, api.ErrName}, {l, "m.f", []int{1}, nil, "", image.Flatten, api.ErrRange}, {l, "m.g", []int{1}, []string{"A"}, "r1d1=1", image.Flatten, api.ErrRange}, {l, "m.g", []int{7}, []string{"int"}, "", image.Flatten, api.ErrRange},
		{unfused, "m.f", nil, nil, "i1=1", image.Fuse, api.ErrName}, {l, "m.f", nil, nil, "n1=1", image.Plan, api.ErrArg}, {l, "m.f", nil, nil, "n1=1 n2=5000", image.Plan, api.ErrArg}, {l, "m.f", nil, nil, "n1=1 n2=0", image.Plan, api.ErrRange}, {l, "m.g", []int{2}, []string{"int"}, "r1d1=100 r1d2=100", image.Plan, api.ErrLimit}, {checked, "m.h", nil, nil, "n1=3", image.Compile, api.ErrLimit},
	} {
		if i, stage, e := image.Make(c.l, c.name, c.ranks, c.elems, sample.Values(c.dims)); stage != c.stage || e != c.e || i.Name != "" || i.Code.Ops != nil {
			t.Errorf("%d: %d %d", k, stage, e)
		}
	}
	// What is not materialized may be great, but counting takes too much work.
	wide := bounded("def row(x: int, y: [k]int) = x * y def all(x: [n]int, y: [k]int) = fold(add, 0, fold(add, 0, row(x, y)))")
	if i, stage, e := image.Make(wide, "m.all", nil, nil, sample.Values("n1=300 n2=300")); stage != image.Cost || e != api.ErrLimit || i.Name != "" {
		t.Errorf("%d %d", stage, e)
	}
	if i, stage, e := image.Make(wide, "m.all", nil, nil, sample.Values("n1=200 n2=300")); stage != 0 || e != api.OK || i.Counts.Reads != 120000 {
		t.Errorf("%d %d", stage, e)
	}
}

// square returns the image of the example.
func square() image.Image {
	i, _, e := image.Make(bounded("def sq(x: [n]int) = x * x def at(x: [n]int, i) = index(x, i)"), "m.sq", nil, nil, sample.Values("n1=3"))
	if e != api.OK {
		panic(e)
	}
	return i
}

// changed returns an image with a change.
func changed(i image.Image, f func(i *image.Image)) image.Image {
	i = image.Copy(i)
	f(&i)
	return i
}

func TestValid(t *testing.T) { // P59.1
	i := square()
	for k, f := range []func(i *image.Image){
		func(i *image.Image) { i.Name = "sq" }, func(i *image.Image) { i.Ranks = make([]int, 11) }, func(i *image.Image) { i.Ranks = []int{7} }, func(i *image.Image) { i.Ranks = []int{-1} }, func(i *image.Image) { i.Elems = slices.Repeat([]string{"int"}, 11) }, func(i *image.Image) { i.Elems = []string{"A"} }, func(i *image.Image) { i.Dims[0].Var = "" }, func(i *image.Image) { i.Dims[0].Var = strings.Repeat("x", 41) }, func(i *image.Image) { i.Dims[0].N = -1 }, func(i *image.Image) { i.Dims[0].N = 4097 }, func(i *image.Image) { i.Dims = append(i.Dims, i.Dims...) }, func(i *image.Image) { i.Dims = sample.Values("b=1 a=1") }, func(i *image.Image) { i.Dims = sample.Values("a=0 b=0 c=0 d=0 e=0 f=0 g=0 h=0 i=0 j=0 k=0 l=0 m=0") }, func(i *image.Image) { i.Proof = -1 }, func(i *image.Image) { i.Proof = 301 }, func(i *image.Image) { i.Code.Regs = 201 }, func(i *image.Image) { i.Counts.Reads = -1 }, func(i *image.Image) { i.Counts.Writes = 1<<40 + 1 }, func(i *image.Image) { i.Counts.Ops = -1 }, func(i *image.Image) { i.Counts.Peak = 1<<40 + 1 },
	} {
		j := changed(i, f)
		b, e := image.Encode(j)
		out, violated, g := image.Run(j, sample.Arrays("#[3: 1 2 3]"))
		if image.Valid(j) || image.Equal(i, j) || b != nil || e != api.ErrArg || out != nil || violated != nil || g != api.ErrArg {
			t.Errorf("%d: %d %d", k, e, g)
		}
	}
	if image.Valid(image.Image{}) || !image.Valid(image.Image{Name: "a.b"}) {
		t.Error("images without anything")
	}
}

// others are valid images that differ from that of the example.
func others() []image.Image {
	var l []image.Image
	for _, f := range []func(i *image.Image){
		func(i *image.Image) { i.Name = "m.f" }, func(i *image.Image) { i.Ranks = []int{6, 0, 1} }, func(i *image.Image) { i.Ranks = make([]int, 10) }, func(i *image.Image) { i.Elems = []string{"int", "bool"} }, func(i *image.Image) { i.Elems = slices.Repeat([]string{"bool"}, 10) }, func(i *image.Image) { i.Dims[0].Var = strings.Repeat("\xff", 40) }, func(i *image.Image) { i.Dims[0].N = 4096 }, func(i *image.Image) { i.Dims = nil }, func(i *image.Image) { i.Dims = sample.Values("a=0 b=0 c=0 d=0 e=0 f=0 g=0 h=0 i=0 j=0 k=0 l=0") }, func(i *image.Image) { i.Proof = 300 }, func(i *image.Image) { i.Code.Regs = 200 }, func(i *image.Image) { i.Code.Arena++ }, func(i *image.Image) { i.Code.Ops = i.Code.Ops[:1] }, func(i *image.Image) { i.Code.Inputs, i.Code.Types = nil, i.Code.Types[1:] }, func(i *image.Image) { i.Code.Results, i.Code.Types = nil, i.Code.Types[:1] }, func(i *image.Image) { i.Code.Types[0].Elem = "bool" }, func(i *image.Image) { i.Counts.Reads = 1 << 40 }, func(i *image.Image) { i.Counts.Writes = 0 }, func(i *image.Image) { i.Counts.Ops = 1 }, func(i *image.Image) { i.Counts.Peak = 4 },
	} {
		l = append(l, changed(square(), f))
	}
	small := image.Image{Name: "a.b", Proof: 300}
	return append(l, small, changed(small, func(i *image.Image) { i.Code.Ops = []api.Op{{Code: bytecode.Skip}} }))
}

func TestEqual(t *testing.T) { // P59.1
	i := square()
	for k, j := range others() {
		if !image.Valid(j) || image.Equal(i, j) || !image.Equal(j, image.Copy(j)) {
			t.Errorf("%d", k)
		}
	}
	i.Ranks, i.Elems = []int{}, nil
	j := changed(i, func(i *image.Image) { i.Ranks, i.Elems = nil, []string{} })
	if !image.Equal(i, j) || !image.Equal(image.Image{}, image.Image{}) {
		t.Error("nil and empty lists")
	}
}

func TestRun(t *testing.T) { // P59.1
	i := square()
	out, violated, e := image.Run(i, sample.Arrays("#[3: 1 -2 3]"))
	if sample.Text(out) != "#[3: 1 4 9] " || violated != nil || e != api.OK {
		t.Errorf("%v %v %d", out, violated, e)
	}
	at, _, _ := image.Make(bounded("def at(x: [n]int, i) = index(x, i)"), "m.at", []int{1}, nil, sample.Values("n1=3 r1d1=2"))
	if out, violated, e := image.Run(at, sample.Arrays("#[3: 5 6 7]", "#[2: 0 3]")); sample.Text(out) != "#[2: 5 0] " || !slices.Equal(violated, []int{1}) || e != api.OK {
		t.Errorf("%v %v %d", out, violated, e)
	}
	failing := changed(i, func(i *image.Image) {
		i.Code.Ops = []api.Op{sample.MachineOp(bytecode.Const, 0, -1), sample.MachineOp(bytecode.Load, 0, 0)}
	})
	for k, c := range []struct {
		i      image.Image
		inputs []string
		e      api.Errno
	}{
		{i, nil, api.ErrArg}, {i, []string{"#b[3: 1 0 0]"}, api.ErrType}, {i, []string{"#[2: 1 0]"}, api.ErrShape}, {failing, []string{"#[3: 1 2 3]"}, api.ErrCode}, {changed(i, func(i *image.Image) { i.Counts.Reads++ }), []string{"#[3: 1 2 3]"}, api.ErrProof}, {changed(i, func(i *image.Image) { i.Counts.Peak++ }), []string{"#[3: 1 2 3]"}, api.ErrProof}, {changed(i, func(i *image.Image) { i.Counts.Peak++ }), []string{"#[2: 1 2]"}, api.ErrShape},
	} {
		if out, violated, e := image.Run(c.i, sample.Arrays(c.inputs...)); e != c.e || out != nil || violated != nil {
			t.Errorf("%d: %d", k, e)
		}
	}
}

func TestBytes(t *testing.T) { // P59.1, P59.4, P59.5
	for k, i := range append(others(), square()) {
		b, e := image.Encode(i)
		j, f := image.Decode(b)
		if !image.Equal(i, j) || e != api.OK || f != api.OK {
			t.Fatalf("%d: %d %d", k, e, f)
		}
		payload, _ := digest.Open(b)
		for at := 0; at < len(payload); at += 1 + len(payload)/40 {
			spoiled := slices.Clone(b)
			spoiled[at] ^= byte(1 + at%255)
			if j, e := image.Decode(spoiled); e == api.OK || j.Name != "" {
				t.Fatalf("%d: spoiled at %d", k, at)
			}
			// The same with a digest that fits.
			for _, other := range [][]byte{slices.Clone(spoiled[:len(payload)]), payload[:at], slices.Insert(slices.Clone(payload), at, 128)} {
				j, e := image.Decode(digest.Seal(other))
				again, f := image.Encode(j)
				if e == api.OK && (f != api.OK || !slices.Equal(again, digest.Seal(other))) || e != api.OK && (e != api.ErrForm || j.Name != "") {
					t.Fatalf("%d: %d: %d", k, at, e)
				}
			}
		}
		if _, e := image.Decode(digest.Seal(append(payload, 128))); e != api.ErrForm {
			t.Errorf("%d: %d", k, e)
		}
	}
	for _, c := range []struct {
		b []byte
		e api.Errno
	}{{nil, api.ErrForm}, {make([]byte, 7), api.ErrForm}, {[]byte("123456789"), api.ErrSum}, {digest.Seal(nil), api.ErrForm}} {
		if _, e := image.Decode(c.b); e != c.e {
			t.Errorf("%v: %d", c.b, e)
		}
	}
}

func TestFormat(t *testing.T) { // P59.4: the parts in their order
	i := changed(square(), func(i *image.Image) { i.Ranks, i.Elems, i.Proof = []int{2, 1}, []string{"bool"}, 200 })
	code, _ := bytecode.Encode(i.Code)
	b := wire.Ints(wire.Text(nil, "m.sq"), []int{2, 1})
	b = wire.Ints(wire.Texts(wire.Texts(b, []string{"bool"}), []string{"n1"}), []int{3})
	b = wire.Text(wire.Int(b, 200), string(code))
	for _, n := range []int{6, 3, 3, 3} {
		b = wire.Int(b, n)
	}
	if got, e := image.Encode(i); !slices.Equal(got, digest.Seal(b)) || e != api.OK {
		t.Errorf("%v %d", got, e)
	}
}

func TestEndToEnd(t *testing.T) { // P59.2
	l := bounded("def f(x: [n]int, y: [n]int, k) = update(scan(add, x * y), k, fold(max, 0, reverse(y)))")
	for _, inputs := range [][]api.Array{sample.Arrays("#[3: 1 2 3]", "#[3: 4 5 6]", "#[: 1]"), sample.Arrays("#[3: 1 2 3]", "#[3: 4 5 6]", "#[: 3]"), sample.Arrays("#[3: 1 2 3]", "#[3: 4 5 6]", "#[2: 0 7]")} {
		ranks := []int{len(inputs[2].Dims)}
		dims := sample.Values("n1=3")
		if ranks[0] == 1 {
			dims = sample.Values("n1=3 r1d1=2")
		}
		i, stage, e := image.Make(l, "m.f", ranks, nil, dims)
		if e != api.OK {
			t.Fatalf("%d %d", stage, e)
		}
		want, checks, f := exec.Run(l, "m.f", inputs)
		out, violated, e := image.Run(i, inputs)
		if e != api.OK || f != api.OK || !array.Equal(out[0], want) || !slices.Equal(violated, checks) {
			t.Errorf("%v %v %d, not %v %v", out, violated, e, want, checks)
		}
	}
}

func TestMemory(t *testing.T) { // results share no memory with arguments
	ranks, elems, dims := []int{1}, []string{"bool"}, sample.Values("r1d1=2")
	i, _, e := image.Make(bounded("def f(x) = [x, x]"), "m.f", ranks, elems, dims)
	ranks[0], elems[0], dims[0].N = 5, "int", 7
	if show(i) == "" || e != api.OK || i.Ranks[0] != 1 || i.Elems[0] != "bool" || i.Dims[0].N != 2 {
		t.Errorf("%s %d", show(i), e)
	}
}
