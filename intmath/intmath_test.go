package intmath_test

import (
	"math"
	"math/big"
	"math/rand"
	"testing"

	"framewise/api"
	"framewise/intmath"
)

const most = intmath.Most

func n(i int) *big.Int { return big.NewInt(int64(i)) }

// exact returns what a function must return whose exact result is b.
func exact(b *big.Int) (int, api.Errno) {
	if new(big.Int).Abs(b).Cmp(n(most)) > 0 {
		return 0, api.ErrRange
	}
	return int(b.Int64()), api.OK
}

// numbers are great and small ones, in range.
func numbers() []int {
	l := []int{most, most - 1, most / 2, most/2 + 1, most / 3, 1 << 31, 1<<31 - 1, 3037000499, 2147483648 + 5, 720720, 5040 * 1000003}
	for i := 0; i <= 13; i++ {
		l = append(l, i)
	}
	for _, i := range l {
		l = append(l, -i)
	}
	return l
}

func pairs(f func(a, b int)) {
	l := numbers()
	for _, a := range l {
		for _, b := range l {
			f(a, b)
		}
	}
	r := rand.New(rand.NewSource(1))
	for i := 0; i < 3000; i++ {
		f(r.Intn(most)>>r.Intn(62), -(r.Intn(most) >> r.Intn(62)))
		f(-(r.Intn(most) >> r.Intn(62)), r.Intn(most)>>r.Intn(62))
		f(r.Intn(most)>>r.Intn(62), r.Intn(most)>>r.Intn(62))
	}
}

func check(t *testing.T, what string, a, b, got int, e api.Errno, want *big.Int) {
	t.Helper()
	if m, f := exact(want); got != m || e != f {
		t.Fatalf("%s of %d and %d: %d %d, want %v", what, a, b, got, e, want)
	}
}

func TestArithmetic(t *testing.T) { // P3.1
	pairs(func(a, b int) {
		s, e := intmath.Add(a, b)
		check(t, "Add", a, b, s, e, new(big.Int).Add(n(a), n(b)))
		s, e = intmath.Sub(a, b)
		check(t, "Sub", a, b, s, e, new(big.Int).Sub(n(a), n(b)))
		s, e = intmath.Mul(a, b)
		check(t, "Mul", a, b, s, e, new(big.Int).Mul(n(a), n(b)))
	})
}

func TestDivision(t *testing.T) { // P3.2
	pairs(func(a, b int) {
		q, e := intmath.Div(a, b)
		r, f := intmath.Mod(a, b)
		c, g := intmath.Ceil(a, b)
		if b == 0 {
			if q != 0 || r != 0 || c != 0 || e != api.ErrArg || f != api.ErrArg || g != api.ErrArg {
				t.Fatalf("division of %d by 0: %d %d %d", a, e, f, g)
			}
			return
		}
		back := new(big.Int).Add(new(big.Int).Mul(n(b), n(q)), n(r))
		if back.Cmp(n(a)) != 0 || e != api.OK || f != api.OK || g != api.OK {
			t.Fatalf("%d by %d: %d %d", a, b, q, r)
		}
		if r != 0 && (r < 0) != (b < 0) || r != 0 && new(big.Int).Abs(n(r)).Cmp(new(big.Int).Abs(n(b))) >= 0 {
			t.Fatalf("the remainder of %d by %d: %d", a, b, r)
		}
		if d, _ := intmath.Div(-a, b); c != -d {
			t.Fatalf("Ceil of %d by %d: %d", a, b, c)
		}
	})
	if q, _ := intmath.Div(-7, 2); q != -4 {
		t.Error("the example")
	}
}

func TestDivisors(t *testing.T) { // P3.3, P3.5
	pairs(func(a, b int) {
		want := new(big.Int).GCD(nil, nil, new(big.Int).Abs(n(a)), new(big.Int).Abs(n(b)))
		g, e := intmath.Gcd(a, b)
		check(t, "Gcd", a, b, g, e, want)
		l, e := intmath.Lcm(a, b)
		multiple := new(big.Int)
		if g != 0 {
			multiple.Div(new(big.Int).Abs(new(big.Int).Mul(n(a), n(b))), n(g))
		}
		check(t, "Lcm", a, b, l, e, multiple)
	})
	if g, e := intmath.Gcds([]int{12, -18, 0, 27}); g != 3 || e != api.OK {
		t.Error("Gcds")
	}
	if g, e := intmath.Gcds(nil); g != 0 || e != api.OK {
		t.Error("Gcds of nothing")
	}
}

func TestBezout(t *testing.T) { // P3.1
	pairs(func(a, b int) {
		g, x, y, e := intmath.Bezout(a, b)
		want, _ := intmath.Gcd(a, b)
		sum := new(big.Int).Add(new(big.Int).Mul(n(a), n(x)), new(big.Int).Mul(n(b), n(y)))
		if e != api.OK || g != want || sum.Cmp(n(g)) != 0 {
			t.Fatalf("%d %d: %d %d %d", a, b, g, x, y)
		}
		least := b != 0 && x >= 0 && (x < b/g || x < -b/g)
		alone := b == 0 && y == 0 && (x == 1 && a > 0 || x == -1 && a < 0 || x == 0 && a == 0)
		if !least && !alone {
			t.Fatalf("the pair of %d and %d: %d %d", a, b, x, y)
		}
	})
	if _, x, y, _ := intmath.Bezout(12, 18); x != 2 || y != -1 {
		t.Error("the example")
	}
}

func TestInverse(t *testing.T) { // P3.6
	pairs(func(a, m int) {
		x, e := intmath.Inverse(a, m)
		g, _ := intmath.Gcd(a, m)
		switch {
		case m < 1:
			if e != api.ErrArg || x != 0 {
				t.Fatalf("modulo %d: %d", m, e)
			}
		case g != 1:
			if e != api.ErrNone || x != 0 {
				t.Fatalf("%d modulo %d: %d %d", a, m, x, e)
			}
		default:
			rest := new(big.Int).Sub(new(big.Int).Mul(n(a), n(x)), n(1))
			if e != api.OK || x < 0 || x >= m || new(big.Int).Mod(rest, n(m)).Sign() != 0 {
				t.Fatalf("%d modulo %d: %d %d", a, m, x, e)
			}
		}
	})
}

func TestSums(t *testing.T) { // P3.4
	if s, e := intmath.Sum([]int{most, most, -most}); s != most || e != api.OK {
		t.Error("the example")
	}
	r := rand.New(rand.NewSource(2))
	pool := numbers()
	for i := 0; i < 2000; i++ {
		k := r.Intn(8)
		a, b := make([]int, k), make([]int, k)
		sum, dot := new(big.Int), new(big.Int)
		for j := range a {
			a[j], b[j] = pool[r.Intn(len(pool))], pool[r.Intn(len(pool))]
			if j > 0 && r.Intn(2) == 0 {
				a[j], b[j] = -a[j-1], b[j-1]+r.Intn(2)
				b[j] = min(b[j], most)
			}
			sum.Add(sum, n(a[j]))
			dot.Add(dot, new(big.Int).Mul(n(a[j]), n(b[j])))
		}
		s, e := intmath.Sum(a)
		check(t, "Sum", i, k, s, e, sum)
		d, e := intmath.Dot(a, b)
		check(t, "Dot", i, k, d, e, dot)
		r.Shuffle(k, func(i, j int) { a[i], a[j] = a[j], a[i] })
		again, f := intmath.Sum(a)
		check(t, "Sum", i, k, again, f, sum)
	}
	long := make([]int, intmath.MaxList)
	for i := range long {
		long[i] = most
	}
	if s, e := intmath.Dot(long, long); s != 0 || e != api.ErrRange {
		t.Error("a long product")
	}
	for i := range long {
		long[i] = most * (1 - i%2*2)
	}
	if s, e := intmath.Sum(long); s != 0 || e != api.OK {
		t.Error("a long sum")
	}
}

func TestOrderOfErrors(t *testing.T) { // P3.1
	long := make([]int, intmath.MaxList+1)
	long[0] = math.MinInt
	if _, e := intmath.Sum(long); e != api.ErrLimit {
		t.Error("Sum of a long list")
	}
	if _, e := intmath.Dot(long, long); e != api.ErrLimit {
		t.Error("Dot of long lists")
	}
	if _, e := intmath.Dot(long, long[1:]); e != api.ErrArg {
		t.Error("Dot of different lists")
	}
	if s, e := intmath.Dot(nil, []int{}); s != 0 || e != api.OK {
		t.Error("Dot of nothing")
	}
	two := []func(a, b int) (int, api.Errno){intmath.Add, intmath.Sub, intmath.Mul, intmath.Div, intmath.Mod, intmath.Ceil, intmath.Gcd, intmath.Lcm, intmath.Inverse,
		func(a, b int) (int, api.Errno) { g, x, y, e := intmath.Bezout(a, b); return g | x | y, e },
		func(a, b int) (int, api.Errno) { return intmath.Gcds([]int{a, b}) },
		func(a, b int) (int, api.Errno) { return intmath.Sum([]int{a, b}) },
		func(a, b int) (int, api.Errno) { return intmath.Dot([]int{a, 0}, []int{0, b}) },
	}
	for i, f := range two {
		for _, bad := range []int{most + 1, -most - 1, math.MinInt, math.MaxInt} {
			for _, other := range []int{0, 1, -1, most} {
				if m, e := f(bad, other); m != 0 || e != api.ErrRange {
					t.Errorf("%d: %d %d", i, bad, other)
				}
				if m, e := f(other, bad); m != 0 || e != api.ErrRange {
					t.Errorf("%d: %d %d", i, other, bad)
				}
			}
		}
	}
}
