package tile_test

import (
	"slices"
	"strconv"
	"testing"

	"framewise/api"
	"framewise/array"
	"framewise/clone"
	"framewise/linear"
	"framewise/nest"
	"framewise/sample"
	"framewise/tile"
)

// text writes the loops of a nest.
func text(n api.Nest) string {
	s := ""
	for _, l := range n.Loops {
		s += l.Var + ": " + linear.Print(l.Lo) + " to"
		for _, x := range l.Hi {
			s += " " + linear.Print(x)
		}
		if l.Step > 1 {
			s += " by " + strconv.Itoa(l.Step)
		}
		s += "; "
	}
	return s
}

// shifted writes v0 at i, k from a read of v0 at the given index.
func shifted(at string) api.Nest {
	return api.Nest{
		Loops: []api.Loop{sample.Loop("i", "0", "n"), sample.Loop("k", "0", "m")},
		Write: api.Access{At: sample.Linears("i k")}, Body: sample.Read(0, at),
	}
}

func triangle() api.Nest {
	n := shifted("0 0")
	n.Loops[1] = sample.Loop("k", "i", "m n")
	return n
}

// deep has as many loops as a number.
func deep(loops int) api.Nest {
	n := api.Nest{Body: sample.Number(1)}
	for k := range loops {
		n.Loops = append(n.Loops, sample.Loop("x"+strconv.Itoa(k), "0", "n"))
	}
	return n
}

func TestInterchange(t *testing.T) { // P51.1
	three := deep(3)
	three.Loops[2].Lo = sample.Linear("x0")
	self := deep(1)
	self.Loops[0].Hi = sample.Linears("n x0")
	for i, c := range []struct {
		n     api.Nest
		order []int
		want  string
		e     api.Errno
	}{
		{shifted("i k"), []int{1, 0}, "k: 0 to m; i: 0 to n; ", 0}, {shifted("i k"), []int{0, 1}, "i: 0 to n; k: 0 to m; ", 0}, {three, []int{1, 0, 2}, "x1: 0 to n; x0: 0 to n; x2: x0 to n; ", 0}, {three, []int{0, 2, 1}, "x0: 0 to n; x2: x0 to n; x1: 0 to n; ", 0}, {deep(0), nil, "", 0},
		{three, []int{2, 0, 1}, "", api.ErrOrder}, {three, []int{1, 2, 0}, "", api.ErrOrder}, {triangle(), []int{1, 0}, "", api.ErrOrder}, {self, []int{0}, "", api.ErrOrder}, {shifted("i k"), []int{0}, "", api.ErrArg}, {shifted("i k"), []int{0, 0}, "", api.ErrArg}, {shifted("i k"), []int{1, 2}, "", api.ErrArg}, {shifted("i k"), []int{-1, 0}, "", api.ErrArg}, {shifted("i k"), []int{0, 1, 2}, "", api.ErrArg}, {triangle(), []int{1, 1}, "", api.ErrArg},
	} {
		got, e := tile.Interchange(c.n, c.order)
		if text(got) != c.want || e != c.e || e == api.OK && got.Body.Op != c.n.Body.Op {
			t.Errorf("%d: %s %d", i, text(got), e)
		}
	}
	n := shifted("i k")
	got, _ := tile.Interchange(n, []int{1, 0})
	got.Loops[0].Hi[0].Const, got.Body.At[0].Const, got.Write.At[0].Const = 5, 5, 5
	if n.Loops[1].Hi[0].Const+n.Body.At[0].Const+n.Write.At[0].Const != 0 {
		t.Error("memory is shared")
	}
}

func TestStrip(t *testing.T) { // P51.1
	stepped := shifted("i k")
	stepped.Loops[1].Step = 2
	full := shifted("i k")
	full.Loops[0].Hi = sample.Linears("1 2 3 n")
	for i, c := range []struct {
		n       api.Nest
		k, size int
		name    string
		want    string
		e       api.Errno
	}{
		{shifted("i k"), 0, 3, "t", "t: 0 to n by 3; i: t to n t+3; k: 0 to m; ", 0}, {shifted("i k"), 1, 1, "_4", "i: 0 to n; _4: 0 to m; k: _4 to m _4+1; ", 0}, {triangle(), 1, 4096, "z", "i: 0 to n; z: i to m n by 4096; k: z to m n z+4096; ", 0}, {stepped, 0, 2, "t", "t: 0 to n by 2; i: t to n t+2; k: 0 to m by 2; ", 0},
		{shifted("i k"), -1, 3, "t", "", api.ErrRange}, {shifted("i k"), 2, 3, "t", "", api.ErrRange}, {shifted("i k"), 0, 0, "t", "", api.ErrRange}, {shifted("i k"), 0, 4097, "t", "", api.ErrRange}, {shifted("i k"), 0, -1, "", "", api.ErrRange}, {stepped, 1, 2, "t", "", api.ErrArg}, {shifted("i k"), 0, 2, "", "", api.ErrArg}, {shifted("i k"), 0, 2, "T", "", api.ErrArg}, {shifted("i k"), 0, 2, "i", "", api.ErrArg}, {shifted("i k"), 0, 2, "k", "", api.ErrArg}, {full, 0, 2, "t", "", api.ErrLimit}, {full, 0, 2, "k", "", api.ErrArg}, {full, 1, 2, "t", "i: 0 to 1 2 3 n; t: 0 to m by 2; k: t to m t+2; ", 0}, {deep(12), 0, 2, "t", "", api.ErrLimit}, {api.Nest{}, 0, 1, "t", "", api.ErrRange},
	} {
		got, e := tile.Strip(c.n, c.k, c.size, c.name)
		if text(got) != c.want || e != c.e {
			t.Errorf("%d: %s %d", i, text(got), e)
		}
	}
	if got, e := tile.Strip(deep(11), 10, 2, "t"); len(got.Loops) != 12 || e != api.OK {
		t.Errorf("%d", e)
	}
}

func TestTile(t *testing.T) { // P51.1, P51.5
	named := shifted("i k")
	named.Loops[0].Var = "t1"
	stepped := deep(3)
	stepped.Loops[1].Step = 2
	full := shifted("i k")
	full.Loops[0].Hi = sample.Linears("1 2 3 n")
	for i, c := range []struct {
		n     api.Nest
		sizes []int
		want  string
		e     api.Errno
	}{
		{shifted("i k"), []int{2, 3}, "t0: 0 to n by 2; t1: 0 to m by 3; i: t0 to n t0+2; k: t1 to m t1+3; ", 0}, {shifted("i k"), []int{0, 3}, "i: 0 to n; t1: 0 to m by 3; k: t1 to m t1+3; ", 0}, {shifted("i k"), []int{2, 0}, "t0: 0 to n by 2; i: t0 to n t0+2; k: 0 to m; ", 0}, {shifted("i k"), []int{0, 0}, "i: 0 to n; k: 0 to m; ", 0}, {deep(0), nil, "", 0}, {deep(4), []int{0, 2, 0, 5}, "x0: 0 to n; t1: 0 to n by 2; t3: 0 to n by 5; x1: t1 to n t1+2; x2: 0 to n; x3: t3 to n t3+5; ", 0}, {deep(3), []int{2, 0, 0}, "t0: 0 to n by 2; x0: t0 to n t0+2; x1: 0 to n; x2: 0 to n; ", 0}, {triangle(), []int{2, 0}, "t0: 0 to n by 2; i: t0 to n t0+2; k: i to m n; ", 0}, {triangle(), []int{0, 2}, "i: 0 to n; t1: i to m n by 2; k: t1 to m n t1+2; ", 0},
		{triangle(), []int{2, 2}, "", api.ErrOrder}, {shifted("i k"), []int{2}, "", api.ErrArg}, {shifted("i k"), nil, "", api.ErrArg}, {shifted("i k"), []int{2, 2, 2}, "", api.ErrArg}, {shifted("i k"), []int{-1, 2}, "", api.ErrRange}, {shifted("i k"), []int{1, 4097}, "", api.ErrRange}, {named, []int{0, 2}, "", api.ErrArg}, {named, []int{2, 0}, "t0: 0 to n by 2; t1: t0 to n t0+2; k: 0 to m; ", 0}, {stepped, []int{2, 2, -1}, "", api.ErrArg}, {stepped, []int{2, 0, -1}, "", api.ErrRange}, {full, []int{2, -1}, "", api.ErrLimit}, {full, []int{0, 2}, "i: 0 to 1 2 3 n; t1: 0 to m by 2; k: t1 to m t1+2; ", 0}, {deep(7), []int{1, 1, 1, 1, 1, 1, 1}, "", api.ErrLimit}, {deep(7), []int{1, 1, 1, 1, 1, -1, 0}, "", api.ErrRange},
	} {
		got, e := tile.Tile(c.n, c.sizes)
		if text(got) != c.want || e != c.e {
			t.Errorf("%d: %s %d", i, text(got), e)
		}
	}
	n := shifted("i k")
	got, _ := tile.Tile(n, []int{0, 0})
	got.Loops[0].Hi[0].Const, got.Body.At[0].Const = 5, 5
	if n.Loops[0].Hi[0].Const+n.Body.At[0].Const != 0 {
		t.Error("memory is shared")
	}
}

func TestSafe(t *testing.T) { // P51.1
	vars := []string{"m", "n"}
	for i, c := range []struct {
		n    api.Nest
		list []int
		hyps string
		want bool
		e    api.Errno
	}{
		{shifted("i-1 k+1"), []int{1, 0}, "", false, 0}, {shifted("i-1 k+1"), []int{0, 1}, "", true, 0}, {shifted("i-1 k-1"), []int{1, 0}, "", true, 0}, {shifted("i-1 k+1"), []int{1, 0}, "1-n", true, 0}, {triangle(), []int{1, 0}, "k", false, api.ErrOrder}, {shifted("i k"), []int{1}, "k", false, api.ErrArg}, {shifted("i k"), []int{1, 0}, "k", false, api.ErrArg}, {deep(5), []int{4, 3, 2, 1, 0}, "", false, api.ErrLimit}, {api.Nest{}, nil, "", false, api.ErrArg},
	} {
		if got, e := tile.SafeInterchange(c.n, c.list, vars, sample.Linears(c.hyps)); got != c.want || e != c.e {
			t.Errorf("%d: %v %d", i, got, e)
		}
	}
	for i, c := range []struct {
		n    api.Nest
		list []int
		hyps string
		want bool
		e    api.Errno
	}{
		{shifted("i-1 k+1"), []int{2, 2}, "", false, 0}, {shifted("i-1 k+1"), []int{2, 0}, "", true, 0}, {shifted("i-1 k+1"), []int{0, 2}, "", true, 0}, {shifted("i-1 k+1"), []int{0, 0}, "", true, 0}, {shifted("i-1 k-1"), []int{2, 2}, "", true, 0}, {shifted("i-1 k+1"), []int{2, 2}, "1-n", true, 0}, {shifted("0 0"), []int{0, 2}, "", true, 0}, {triangle(), []int{2, 2}, "k", false, api.ErrOrder}, {shifted("i k"), []int{1}, "k", false, api.ErrArg}, {shifted("i k"), []int{-1, 0}, "k", false, api.ErrRange}, {shifted("i k"), []int{0, 0}, "k", false, api.ErrArg}, {deep(5), []int{0, 0, 0, 0, 0}, "", false, api.ErrLimit},
	} {
		if got, e := tile.SafeTile(c.n, c.list, vars, sample.Linears(c.hyps)); got != c.want || e != c.e {
			t.Errorf("%d: %v %d", i, got, e)
		}
	}
}

// outcome is what a run leaves.
type outcome struct {
	arrays   []api.Array
	counts   api.Counts
	violated []int
	e        api.Errno
}

func run(n api.Nest, env []api.Value, arrays []api.Array) outcome {
	var o outcome
	o.arrays, o.counts, o.violated, o.e = nest.Run(n, env, arrays)
	return o
}

func (o outcome) equals(p outcome) bool {
	return o.e == p.e && o.counts == p.counts && slices.Equal(o.violated, p.violated) && slices.EqualFunc(o.arrays, p.arrays, array.Equal)
}

func TestRandom(t *testing.T) { // P51.2, P51.3, P51.4, P51.5
	d := sample.NewDice(19)
	done := map[string]int{}
	for range 1500 {
		n := sample.Nest(d, 1+d.N(3))
		env := []api.Value{{Var: "n", N: d.N(5)}}
		arrays := sample.Squares(d)
		vars, hyps := []string{"n"}, sample.Linears("n 4-n")
		before := run(n, env, arrays)
		k := d.N(len(n.Loops))
		if stripped, e := tile.Strip(n, k, 1+d.N(4), "t"); e == api.OK {
			points, _ := nest.Points(n, env)
			more, _ := nest.Points(stripped, env)
			more = clone.Each(more, func(p []int) []int { return slices.Delete(slices.Clone(p), k, k+1) })
			if !run(stripped, env, arrays).equals(before) || !slices.EqualFunc(points, more, slices.Equal[[]int]) {
				t.Fatalf("%s: strip", text(n))
			}
			done["strip"]++
		}
		order := slices.Clone([][]int{{0, 1, 2}, {0, 2, 1}, {1, 0, 2}, {1, 2, 0}, {2, 0, 1}, {2, 1, 0}}[d.N(6)])
		order = slices.DeleteFunc(order, func(k int) bool { return k >= len(n.Loops) })
		if moved, e := tile.Interchange(n, order); e == api.OK {
			inverse := make([]int, len(order))
			for i, k := range order {
				inverse[k] = i
			}
			if back, e := tile.Interchange(moved, inverse); text(back) != text(n) || e != api.OK {
				t.Fatalf("%s: back", text(n))
			}
			isSafe, e := tile.SafeInterchange(n, order, vars, hyps)
			if e != api.OK {
				t.Fatalf("%s: %d", text(n), e)
			}
			if isSafe && before.e == api.OK {
				done["interchange"]++
				if !run(moved, env, arrays).equals(before) {
					t.Fatalf("%s: %v", text(n), order)
				}
			}
		}
		sizes := []int{d.N(3), d.N(4), d.N(3)}[:len(n.Loops)]
		if tiled, e := tile.Tile(n, sizes); e == api.OK {
			isSafe, e := tile.SafeTile(n, sizes, vars, hyps)
			if e != api.OK {
				t.Fatalf("%s: %d", text(n), e)
			}
			if isSafe && before.e == api.OK {
				done["tile"]++
				if !run(tiled, env, arrays).equals(before) {
					t.Fatalf("%s: %v", text(n), sizes)
				}
			}
			if zeros, e := tile.Tile(n, make([]int, len(sizes))); text(zeros) != text(n) || e != api.OK {
				t.Fatalf("%s: zeros", text(n))
			}
		}
	}
	if done["strip"] < 500 || done["interchange"] < 200 || done["tile"] < 200 {
		t.Errorf("%v", done)
	}
}
