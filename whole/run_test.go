package whole

import (
	"math/rand"
	"slices"
	"testing"

	"framewise/api"
	"framewise/array"
	"framewise/bounds"
	"framewise/checker"
	"framewise/elaborate"
	"framewise/eval"
	"framewise/exec"
	"framewise/infer"
	"framewise/linear"
	"framewise/ranges"
	"framewise/shape"
	"framewise/types"
)

// instance has random values for the variables of a scheme.
func instance(r *rand.Rand, s api.Scheme) []api.Bind {
	l := types.Vars(s)
	for i := range l {
		switch l[i].Kind {
		case api.DimVar:
			l[i].Dim = linear.Of(r.Intn(5))
		case api.RowVar:
			for range r.Intn(3) {
				l[i].Row.Dims = append(l[i].Row.Dims, linear.Of(r.Intn(4)))
			}
		case api.ElemVar:
			l[i].Elem = []string{"int", "bool"}[r.Intn(2)]
		}
	}
	return l
}

// randomArray returns an array of a type without variables, if there is one.
func randomArray(r *rand.Rand, t api.Type) (api.Array, bool) {
	dims, e := shape.Eval(t.Shape, nil)
	if e != api.OK {
		return api.Array{}, false
	}
	a, e := array.Zeros(t.Elem, dims)
	for i := range a.Data {
		a.Data[i] = r.Intn(2)
		if t.Elem == "int" {
			a.Data[i] = []int{r.Intn(6) - 1, r.Intn(200) - 100, 1<<31 - 1}[min(r.Intn(8)/3, 2)%3]
		}
	}
	return a, e == api.OK
}

// inputs returns random inputs for a scheme, if there are some.
func inputs(r *rand.Rand, s api.Scheme) ([]api.Array, bool) {
	for range 5 {
		binds := instance(r, s)
		var l []api.Array
		for _, p := range s.Params {
			t, e := types.Subst(p, binds)
			if a, ok := randomArray(r, t); ok && e == api.OK {
				l = append(l, a)
			}
		}
		if len(l) == len(s.Params) {
			return l, true
		}
	}
	return nil, false
}

// typed returns the program of a text as far as it can be inferred, and its elaborated definitions.
func typed(t *testing.T, text string) (api.Program, []api.Typed) {
	t.Helper()
	p, err := resolved(text)
	if err != nil {
		t.Fatal(err)
	}
	l, _, _ := elaborate.All(p)
	p.Defs = p.Defs[:len(l)]
	p, _, e := infer.All(p)
	if e != api.OK {
		t.Fatalf("%s: %d", text, e)
	}
	return p, l
}

func TestRuns(t *testing.T) { // W3, W4
	r := rand.New(rand.NewSource(4))
	compared, proved := 0, 0
	for _, text := range texts(4, 400) {
		p, l := typed(t, text)
		if n, at, e := checker.All(l); n != len(l) || e != api.OK {
			t.Fatalf("%s: the checker refuses node %d of %d: %d", text, at, n, e)
		}
		numbered := exec.Number(l)
		bounded, e := bounds.Bound(l)
		if n, f := bounds.Verify(bounded); e != api.OK || f != api.OK {
			t.Fatalf("%s: site %d: %d", text, n, f)
		}
		open := bounds.Checks(bounded)
		for _, d := range l {
			for range 3 {
				in, ok := inputs(r, d.Scheme)
				if !ok {
					continue
				}
				a, v, e := exec.Run(numbered, d.Name, in)
				b, w, f := eval.Run(p, d.Name, in)
				c, u, g := exec.Run(bounded, d.Name, in)
				if _, h := exec.Binds(d.Scheme, in); h == api.OK && !isSize(e) && !isSize(f) && (e != api.OK || f != api.OK) {
					t.Fatalf("%s: %s: %d %d", text, d.Name, e, f)
				}
				if e != api.OK || f != api.OK {
					continue
				}
				compared++
				if !array.Equal(a, b) || !slices.Equal(v, w) {
					t.Fatalf("%s: %s of %v: %v %v, not %v %v", text, d.Name, in, a, v, b, w)
				}
				binds, _ := exec.Binds(d.Scheme, in)
				result, _ := types.Subst(d.Scheme.Result, binds)
				if dims, _ := shape.Eval(result.Shape, nil); a.Elem != result.Elem || !slices.Equal(a.Dims, dims) {
					t.Fatalf("%s: %s of %v: %v", text, d.Name, in, a)
				}
				for _, n := range v {
					if !slices.Contains(open, n) {
						t.Fatalf("%s: %s: the check %d is proved, and violated", text, d.Name, n)
					}
				}
				if !array.Equal(a, c) || !slices.Equal(v, u) || g != api.OK {
					t.Fatalf("%s: %s with certificates: %v %v %d", text, d.Name, c, u, g)
				}
			}
		}
		n, _ := bounds.Proved(bounded)
		proved += n
	}
	t.Logf("%d runs, %d sites with certificates", compared, proved)
	if compared < 500 || proved < 50 {
		t.Errorf("%d runs, %d sites with certificates", compared, proved)
	}
}

// isSize reports whether an error says that an array, a number or the work is too great.
func isSize(e api.Errno) bool { return e == api.ErrLimit || e == api.ErrRange || e == api.ErrRank }

func TestParts(t *testing.T) { // W5
	r := rand.New(rand.NewSource(5))
	compared := 0
	more := []string{"module m def f(x, y) = x * 2 + y def g(x, y: [n]int) = index(y, x) def h(x) = scan(add, x) def k(x, y) = select(x, y, y - 1) def l(x) = fold(max, 0, [x, neg(x)])"}
	for _, text := range append(texts(5, 60), more...) {
		_, l := typed(t, text)
		for _, d := range l {
			row := d.Scheme.Result.Shape.Row
			in, ok := inputs(r, d.Scheme)
			if row == "" || !ok {
				continue
			}
			count := 1 + r.Intn(3)
			whole := slices.Clone(in)
			var parts []api.Array
			var all [][]api.Array
			for range count {
				all = append(all, slices.Clone(in))
			}
			for i, p := range d.Scheme.Params {
				if p.Shape.Row != row {
					continue
				}
				whole[i] = api.Array{Elem: in[i].Elem, Dims: append([]int{count}, in[i].Dims...)}
				for j := range count {
					part := api.Array{Elem: in[i].Elem, Dims: in[i].Dims}
					for range in[i].Data {
						part.Data = append(part.Data, r.Intn(2))
					}
					all[j][i] = part
					whole[i].Data = append(whole[i].Data, part.Data...)
				}
			}
			out, _, e := exec.Run(l, d.Name, whole)
			for _, args := range all {
				a, _, f := exec.Run(l, d.Name, args)
				e = max(e, f)
				parts = append(parts, a)
			}
			if e != api.OK {
				continue
			}
			compared++
			var data []int
			for _, a := range parts {
				data = append(data, a.Data...)
			}
			if !slices.Equal(out.Data, data) || !slices.Equal(out.Dims[1:], parts[0].Dims) {
				t.Fatalf("%s: %s of %v: %v, not %v", text, d.Name, whole, out, data)
			}
		}
	}
	t.Logf("%d", compared)
	if compared < 10 {
		t.Errorf("%d", compared)
	}
}

func TestRanges(t *testing.T) { // P34.3, P35.3
	r := rand.New(rand.NewSource(6))
	compared := 0
	for _, text := range texts(6, 150) {
		_, l := typed(t, text)
		for _, d := range l {
			bound, e := ranges.Result(l, d.Name)
			in, ok := inputs(r, d.Scheme)
			if e != api.OK {
				t.Fatalf("%s: %d", text, e)
			}
			if !ok || !bound.Low && !bound.High {
				continue
			}
			out, _, e := exec.Run(l, d.Name, in)
			binds, f := exec.Binds(d.Scheme, in)
			if e != api.OK || f != api.OK {
				continue
			}
			compared++
			lo, _ := linear.Subst(bound.Lo, binds)
			hi, _ := linear.Subst(bound.Hi, binds)
			for _, n := range out.Data {
				if bound.Low && n < lo.Const || bound.High && n > hi.Const {
					t.Fatalf("%s: %s of %v: %v", text, d.Name, in, out)
				}
			}
		}
	}
	if compared < 20 {
		t.Errorf("%d", compared)
	}
}
