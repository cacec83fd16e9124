package linear_test

import (
	"bytes"
	"math"
	"math/rand"
	"slices"
	"strings"
	"testing"

	"framewise/api"
	"framewise/linear"
	"framewise/wire"
)

const big = api.MaxCoef

// l builds an expression of a constant, and variables with their coefficients.
func l(n int, terms ...any) api.Linear {
	e := api.Linear{Const: n}
	for i := 0; i < len(terms); i += 2 {
		e.Terms = append(e.Terms, api.Coef{Var: terms[i].(string), C: terms[i+1].(int)})
	}
	return e
}

func many(n int) api.Linear {
	var e api.Linear
	for i := 0; i < n; i++ {
		e.Terms = append(e.Terms, api.Coef{Var: string(rune('a' + i)), C: 1})
	}
	return e
}

var long = strings.Repeat("a", 30)

// random returns a valid expression of at most three variables.
func random(r *rand.Rand) api.Linear {
	e := l(r.Intn(21) - 10)
	for _, v := range []string{"_1", "_12", "a", "b1", "n"} {
		if c := r.Intn(9) - 4; c != 0 && r.Intn(2) == 0 {
			e.Terms = append(e.Terms, api.Coef{Var: v, C: c})
		}
	}
	if r.Intn(20) == 0 {
		e.Const = []int{big, -big, big - 1}[r.Intn(3)]
	}
	return e
}

func TestName(t *testing.T) { // P4.1
	for s, want := range map[string]bool{
		"a": true, "z9": true, "n1b": true, long: true, "_1": true, "_123456789": true,
		"": false, "A": false, "1a": false, "a_": false, long + "a": false, "_": false, "_0": false, "_01": false, "_1a": false, "_1234567890": false, "__1": false, "aB": false, "é": false, "a ": false,
	} {
		if linear.Name(s) != want {
			t.Errorf("%q", s)
		}
	}
}

func TestValid(t *testing.T) { // P4.1
	for i, c := range []struct {
		e    api.Linear
		want bool
	}{
		{l(0), true}, {l(big), true}, {l(-big), true}, {l(big + 1), false}, {l(-big - 1), false}, {l(math.MinInt), false},
		{l(0, "a", big), true}, {l(0, "a", big+1), false}, {l(0, "a", -big-1), false}, {l(0, "a", 0), false}, {l(0, "A", 1), false},
		{l(0, "a", 1, "b", 1), true}, {l(0, "b", 1, "a", 1), false}, {l(0, "a", 1, "a", 1), false}, {many(12), true}, {many(13), false}, {l(0, "_2", 1, "a", 1), true},
	} {
		if linear.Valid(c.e) != c.want {
			t.Errorf("%d: %v", i, c.e)
		}
	}
}

func TestParts(t *testing.T) { // P4.1
	e := l(5, "a", 6, "n", -9)
	if linear.Coef(e, "n") != -9 || linear.Coef(e, "b") != 0 || linear.Coef(l(0, "x", 2, "x", 3), "x") != 2 {
		t.Error("Coef")
	}
	if !slices.Equal(linear.Vars(l(0, "x", 2, "a", 3, "x", 0)), []string{"x", "a", "x"}) || linear.Vars(l(1)) != nil {
		t.Error("Vars")
	}
	if n, ok := linear.Const(l(-7)); n != -7 || !ok {
		t.Error("Const of a number")
	}
	if n, ok := linear.Const(e); n != 0 || ok {
		t.Error("Const of others")
	}
	if linear.Content(e) != 3 || linear.Content(l(4)) != 0 || linear.Content(l(0, "a", -4)) != 4 || linear.Content(l(0, "b", 2, "a", 2)) != 0 {
		t.Error("Content")
	}
	if !linear.Equal(linear.Of(3), l(3)) || !linear.Equal(linear.Var("n"), l(0, "n", 1)) || linear.Valid(linear.Of(big+1)) || linear.Valid(linear.Var("N")) {
		t.Error("Of and Var")
	}
	if !linear.Equal(api.Linear{Terms: []api.Coef{}}, api.Linear{}) || linear.Equal(e, l(5, "a", 6)) || linear.Equal(e, l(4, "a", 6, "n", -9)) {
		t.Error("Equal")
	}
}

func TestAlgebra(t *testing.T) { // P4.2
	r := rand.New(rand.NewSource(1))
	values := []api.Value{{Var: "n", N: 7}, {Var: "_1", N: -3}, {Var: "_12", N: 11}, {Var: "a", N: 2}, {Var: "b1", N: -5}, {Var: "n", N: 99}}
	value := func(e api.Linear) int {
		n, err := linear.Eval(e, values)
		if err != api.OK {
			t.Fatalf("%v has no value", e)
		}
		return n
	}
	for i := 0; i < 3000; i++ {
		a, b, c := random(r), random(r), random(r)
		ab, e := linear.Add(a, b)
		ba, f := linear.Add(b, a)
		if !linear.Equal(ab, ba) || e != f || !linear.Valid(ab) {
			t.Fatalf("%v %v", a, b)
		}
		bc, g := linear.Add(b, c)
		if e != api.OK || g != api.OK {
			continue
		}
		left, e := linear.Add(ab, c)
		right, f := linear.Add(a, bc)
		if e == api.OK && f == api.OK && !linear.Equal(left, right) {
			t.Fatalf("%v %v %v", a, b, c)
		}
		if back, e := linear.Sub(ab, b); !linear.Equal(back, a) || e != api.OK {
			t.Fatalf("%v %v", a, b)
		}
		k := r.Intn(7) - 3
		ka, e := linear.Scale(a, k)
		kb, f := linear.Scale(b, k)
		if e != api.OK || f != api.OK {
			continue
		}
		kab, e := linear.Scale(ab, k)
		sum, f := linear.Add(ka, kb)
		if e == api.OK && f == api.OK && !linear.Equal(sum, kab) {
			t.Fatalf("%v %v %d", a, b, k)
		}
		if value(ab) != value(a)+value(b) || value(ka) != k*value(a) {
			t.Fatalf("values of %v %v %d", a, b, k)
		}
	}
}

func TestSubst(t *testing.T) { // P4.3
	r := rand.New(rand.NewSource(2))
	for i := 0; i < 3000; i++ {
		a := random(r)
		binds := []api.Bind{{Kind: api.RowVar, Var: "a"}, {Kind: api.DimVar, Var: "a", Dim: random(r)}, {Kind: api.DimVar, Var: "n", Dim: random(r)}, {Kind: api.DimVar, Var: "n", Dim: l(77)}}
		b, e := linear.Subst(a, binds)
		if e != api.OK {
			continue
		}
		values := []api.Value{{Var: "n", N: r.Intn(20)}, {Var: "_1", N: -3}, {Var: "_12", N: 11}, {Var: "a", N: 2}, {Var: "b1", N: -5}}
		n, _ := linear.Eval(b, values)
		var under []api.Value
		for _, v := range values {
			if j := slices.IndexFunc(binds, func(b api.Bind) bool { return b.Kind == api.DimVar && b.Var == v.Var }); j >= 0 {
				v.N, _ = linear.Eval(binds[j].Dim, values)
			}
			under = append(under, v)
		}
		if m, _ := linear.Eval(a, under); m != n || !linear.Valid(b) {
			t.Fatalf("%v under %v is %v", a, binds, b)
		}
	}
	e, err := linear.Subst(l(0, "m", 1, "n", 1), []api.Bind{{Kind: api.DimVar, Var: "n", Dim: l(1, "m", 1)}})
	if !linear.Equal(e, l(1, "m", 2)) || err != api.OK {
		t.Error("the example")
	}
	bad := []api.Bind{{Kind: api.DimVar, Var: "n", Dim: l(0, "N", 1)}, {Kind: api.DimVar, Var: "m", Dim: l(0, "a", big)}, {Kind: api.DimVar, Var: "k", Dim: many(12)}}
	for i, c := range []struct {
		e    api.Linear
		want api.Errno
	}{
		{l(0, "n", 1), api.ErrArg}, {l(0, "x", 0), api.ErrArg}, {l(0, "m", 1), api.OK}, {l(0, "m", 2), api.ErrLimit}, {l(0, "a", -big, "m", 2), api.OK}, {l(0, "k", 1, "z", 1), api.ErrLimit}, {l(0, "a", -1, "k", 1, "z", 1), api.OK}, {l(0, "m", 2, "n", 1), api.ErrArg},
	} {
		if s, e := linear.Subst(c.e, bad); e != c.want || e != api.OK && !linear.Equal(s, l(0)) {
			t.Errorf("%d: %v %d", i, s, e)
		}
	}
}

func TestLimits(t *testing.T) { // P4.1
	for i, c := range []struct {
		op   func(a, b api.Linear) (api.Linear, api.Errno)
		a, b api.Linear
		want api.Linear
		err  api.Errno
	}{
		{linear.Add, l(big), l(1), l(0), api.ErrLimit},
		{linear.Add, l(big), l(-1), l(big - 1), api.OK},
		{linear.Add, many(12), l(0, "z", 1), l(0), api.ErrLimit},
		{linear.Add, l(0, "A", 1), l(big), l(0), api.ErrArg},
		{linear.Sub, l(0, "a", big), l(0, "a", -1), l(0), api.ErrLimit},
		{linear.Sub, many(12), many(12), l(0), api.OK},
		{linear.Sub, l(0), l(0, "a", 0), l(0), api.ErrArg},
		{scale, l(0), l(math.MinInt), l(0), api.OK},
		{scale, l(1), l(big), l(big), api.OK},
		{scale, l(-1), l(big + 1), l(0), api.ErrLimit},
		{scale, l(0, "a", 1), l(math.MaxInt), l(0), api.ErrLimit},
		{scale, l(0, "a", 1<<40), l(0), l(0), api.ErrArg},
		{scale, many(3), l(0), l(0), api.OK},
	} {
		if e, err := c.op(c.a, c.b); err != c.err || !linear.Equal(e, c.want) {
			t.Errorf("%d: %v %d", i, e, err)
		}
	}
	values := []api.Value{{Var: "a", N: 1000000000}, {Var: "b", N: -1000000001}, {Var: "c", N: 2}}
	for i, c := range []struct {
		e    api.Linear
		want int
		err  api.Errno
	}{
		{l(3, "a", big), 3 + 1000000000*big, api.OK}, {l(3, "a", 1, "b", 1, "x", 1), 0, api.ErrRange}, {l(3, "a", 1, "aa", 1, "b", 1), 0, api.ErrName}, {l(0, "c", 0), 0, api.ErrArg}, {l(4), 4, api.OK},
	} {
		if n, e := linear.Eval(c.e, values); n != c.want || e != c.err {
			t.Errorf("%d: %d %d", i, n, e)
		}
	}
}

func scale(a, k api.Linear) (api.Linear, api.Errno) { return linear.Scale(a, k.Const) }

func TestTexts(t *testing.T) { // P4.4
	r := rand.New(rand.NewSource(3))
	for i := 0; i < 3000; i++ {
		e := random(r)
		back, err := linear.Parse(linear.Print(e))
		if !linear.Equal(back, e) || err != api.OK {
			t.Fatalf("%v has the text %q", e, linear.Print(e))
		}
	}
	for text, want := range map[string]string{
		"m+2n-1": "m+2n-1", "3 * n - n+ 2": "2n+2", " - n ": "-n", "+n": "n", "0": "0", "-0": "0", "0n+5": "5", "2*n": "2n", "n - n": "0", "-1n": "-n", "3_1": "3_1", "1000000": "1000000", "9999999-9000000": "999999", "5-3n": "-3n+5", "b+a": "a+b", long: long, "_123456789": "_123456789", "a - -b": "", "2 n": "", "2**n": "", "2*3": "", "n2 3": "", "": "", " ": "", "+": "", "n+": "", "n n": "", "00": "", "01": "", "10000000": "", "_0": "", "N": "", "n\t": "", "2*": "", "+ +n": "", long + "a": "", "n*2": "", "_1a": "", "3_0": "",
	} {
		e, err := linear.Parse(text)
		if (err == api.OK) != (want != "") || err == api.OK && linear.Print(e) != want || err != api.OK && err != api.ErrSyntax {
			t.Errorf("%q: %v %d", text, e, err)
		}
	}
	for _, text := range []string{"1000001", "9999999", "600000n+600000n", "a+b+c+d+e+f+g+h+i+j+k+l+m"} {
		if e, err := linear.Parse(text); err != api.ErrLimit || !linear.Equal(e, l(0)) {
			t.Errorf("%q: %d", text, err)
		}
	}
	if _, err := linear.Parse("a+b+c+d+e+f+g+h+i+j+k+l+m-a"); err != api.OK {
		t.Error("twelve variables")
	}
	if linear.Print(l(0, "a", 0)) != "" || linear.Print(l(big+1)) != "" {
		t.Error("texts of invalid expressions")
	}
}

func TestOrder(t *testing.T) { // P4.5
	ascending := []api.Linear{l(-1), l(0), l(3), l(0, "a", -2), l(-1, "a", 1), l(9, "a", 1), l(0, "a", 1, "b", 1), l(0, "a", 2), l(0, "ab", -1), l(5, "b", 1)}
	for i, a := range ascending {
		for j, b := range ascending {
			want := 0
			if i < j {
				want = -1
			} else if i > j {
				want = 1
			}
			if linear.Compare(a, b) != want || linear.Equal(a, b) != (want == 0) {
				t.Errorf("%v %v", a, b)
			}
		}
	}
	r := rand.New(rand.NewSource(4))
	for i := 0; i < 3000; i++ {
		a, b, c := random(r), random(r), random(r)
		if linear.Compare(a, b) != -linear.Compare(b, a) || linear.Compare(a, b) <= 0 && linear.Compare(b, c) <= 0 && linear.Compare(a, c) > 0 || (linear.Compare(a, b) == 0) != linear.Equal(a, b) {
			t.Fatalf("%v %v %v", a, b, c)
		}
	}
}

func TestEncoding(t *testing.T) { // P4.6
	r := rand.New(rand.NewSource(5))
	for i := 0; i < 2000; i++ {
		e := random(r)
		b := linear.Encode([]byte{1}, e)
		s := wire.Source{Rest: append(b[1:], 9)}
		if back := linear.Decode(&s); !linear.Equal(back, e) || s.Err != api.OK || !bytes.Equal(s.Rest, []byte{9}) || b[0] != 1 {
			t.Fatalf("%v has %v", e, b)
		}
		for k := range b {
			c := bytes.Clone(b[1:])
			c[r.Intn(len(c))] += byte(1 + k)
			s := wire.Source{Rest: c}
			back := linear.Decode(&s)
			if s.Err == api.OK && !bytes.Equal(linear.Encode(nil, back), c[:len(c)-len(s.Rest)]) {
				t.Fatalf("%v was read from %v", back, c)
			}
			if s.Err != api.OK && (len(s.Rest) != len(c) || !linear.Equal(back, l(0))) {
				t.Fatalf("an error changed %v", c)
			}
		}
	}
	for i, c := range []struct {
		b    []byte
		want api.Errno
	}{
		{wire.Int(nil, big+1), api.ErrRange}, {wire.Int(nil, 0), api.ErrForm}, {wire.Int(wire.Int(nil, 0), 13), api.ErrLimit}, {wire.Int(wire.Int(nil, 0), -1), api.ErrLimit}, {linear.Encode(nil, l(0, long+"a", 1)), api.ErrLimit}, {linear.Encode(nil, l(0, "a", big+1)), api.ErrRange}, {linear.Encode(nil, l(0, "a", 0)), api.ErrForm}, {linear.Encode(nil, l(0, "A", 1)), api.ErrForm}, {linear.Encode(nil, l(0, "b", 1, "a", 1)), api.ErrForm}, {linear.Encode(nil, many(13)), api.ErrLimit}, {linear.Encode(nil, many(12)), api.OK},
	} {
		s := wire.Source{Rest: c.b}
		linear.Decode(&s)
		if s.Err != c.want || s.Err != api.OK && len(s.Rest) != len(c.b) {
			t.Errorf("%d: %d", i, s.Err)
		}
	}
	s := wire.Source{Rest: linear.Encode(nil, l(1)), Err: api.ErrSum}
	if e := linear.Decode(&s); e.Const != 0 || s.Err != api.ErrSum || len(s.Rest) == 0 || linear.Decode(nil).Const != 0 {
		t.Error("Decode behind an error")
	}
}
