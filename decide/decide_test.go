package decide_test

import (
	"math/rand"
	"slices"
	"strconv"
	"testing"

	"framewise/api"
	"framewise/certificate"
	"framewise/decide"
	"framewise/linear"
)

func lin(s string) api.Linear {
	l, e := linear.Parse(s)
	if e != api.OK {
		panic(s)
	}
	return l
}

// facts parses expressions that are at least 0, or, with a = behind them, are 0.
func facts(sources ...string) []api.Fact {
	var l []api.Fact
	for _, s := range sources {
		if s[len(s)-1] == '=' {
			l = append(l, api.Fact{Equal: true, L: lin(s[:len(s)-1])})
		} else {
			l = append(l, api.Fact{L: lin(s)})
		}
	}
	return l
}

// verdict checks what Decide returns with its verdict: P8.2 and P8.3.
func verdict(t *testing.T, l []api.Fact) int {
	t.Helper()
	v, point, c := decide.Decide(l)
	var vars []string
	for _, f := range l {
		vars = append(vars, linear.Vars(f.L)...)
	}
	slices.Sort(vars)
	vars = slices.Compact(vars)
	switch v {
	case decide.Sat:
		var names []string
		for _, p := range point {
			names = append(names, p.Var)
		}
		if !certificate.Holds(l, point) || !slices.Equal(names, vars) || c.Kind != 0 {
			t.Fatalf("%v: the point %v", l, point)
		}
	case decide.Unsat:
		if e := certificate.Check(l, c); e != api.OK || point != nil {
			t.Fatalf("%v: the certificate %v: %d", l, c, e)
		}
	case decide.Unknown:
		if point != nil || c.Kind != 0 {
			t.Fatalf("%v: Unknown with more", l)
		}
	default:
		t.Fatalf("%v: %d", l, v)
	}
	return v
}

func TestExamples(t *testing.T) { // P8.1
	for i, c := range []struct {
		l    []string
		want int
	}{
		{nil, decide.Sat},
		{[]string{"2n-2m-1="}, decide.Unsat},
		{[]string{"3n-1", "-3n+2"}, decide.Unsat},
		{[]string{"n-3", "m-n"}, decide.Sat},
		{[]string{"-1"}, decide.Unsat},
		{[]string{"0="}, decide.Sat},
		{[]string{"1="}, decide.Unsat},
		{[]string{"-1="}, decide.Unsat},
		{[]string{"n-m-3=", "n-5m=", "n"}, decide.Unsat},
		{[]string{"4n-6m-2=", "n-m", "-n"}, decide.Sat},
		{[]string{"4n-6m-2=", "n-m-1", "-n-3m", "m+n"}, decide.Unsat},
		{[]string{"7n-5m-1=", "n", "-n+2"}, decide.Unsat},
		{[]string{"7n-5m-1=", "n", "-n+3"}, decide.Sat},
		{[]string{"1000000n-999999m-1=", "n", "-n+5", "m-2"}, decide.Unsat},
		{[]string{"3n+5m-7k-1", "-3n-5m+7k+1", "n", "m", "k", "-n-m-k+3"}, decide.Sat},
		{[]string{"2n+2m-3", "-2n-2m+3"}, decide.Unsat},
		{[]string{"2n-3m", "-2n+3m+1", "3n-2m-2", "-3n+2m+2", "n+m-1"}, decide.Unsat},
		{[]string{"n-1000000"}, decide.Sat},
		{[]string{"n-m-1000000", "m-1"}, decide.Unknown},
		{[]string{"n-m-1000000", "m"}, decide.Sat},
		{[]string{"_999999999"}, decide.Unknown},
		{[]string{"_999999998"}, decide.Sat},
		{[]string{"n-1000000m=", "k-2n"}, decide.Unknown},
		{[]string{"n-1000000m=", "k-2n", "1="}, decide.Unknown},
		{[]string{"1=", "n-1000000m=", "k-2n"}, decide.Unsat},
		{[]string{"n-1000000m=", "m-1000000="}, decide.Unknown},
		{[]string{"n-1000000m=", "m-1000="}, decide.Unknown},
		{[]string{"n-1000000m=", "m-1001="}, decide.Unknown},
		{[]string{"n-1000000m=", "m-1000"}, decide.Sat},
		{[]string{"n-1000000m=", "m-1001"}, decide.Unknown},
	} {
		if v := verdict(t, facts(c.l...)); v != c.want {
			t.Errorf("%d: %d", i, v)
		}
	}
	if decided, _, _ := decide.Decide([]api.Fact{{L: linear.Var("N")}}); decided != decide.Unknown {
		t.Error("a fact that is not valid")
	}
	if decided, _, _ := decide.Decide(make([]api.Fact, 101)); decided != decide.Unknown {
		t.Error("too many facts")
	}
	if decided, _, _ := decide.Decide(make([]api.Fact, 100)); decided != decide.Sat {
		t.Error("100 facts")
	}
}

func TestLimits(t *testing.T) { // P8.1
	// Splitting does not end for these: no values, but no contradiction by bounds.
	if v := verdict(t, facts("2n-3m-1", "-2n+3m+1", "3n-2m", "n")); v != decide.Sat {
		t.Errorf("%d", v)
	}
	// Each of the 100 variables has one bound, so pairs of bounds make no list too long.
	var l []api.Fact
	for i := 0; i < 50; i++ {
		v := linear.Var("v" + strconv.Itoa(i))
		l = append(l, api.Fact{L: v})
		u, _ := linear.Sub(linear.Of(3), v)
		l = append(l, api.Fact{L: u})
	}
	if v := verdict(t, l); v != decide.Sat {
		t.Errorf("%d", v)
	}
	// Whichever variable is chosen, its pairs of bounds make the list too long.
	l = random(rand.New(rand.NewSource(4)), []string{"a", "b", "c", "d", "e"}, 60, 9, false)
	if v := verdict(t, l); v != decide.Unknown {
		t.Errorf("%d", v)
	}
}

// box returns facts with the limits of variables.
func box(vars []string, most int) []api.Fact {
	var l []api.Fact
	for _, v := range vars {
		l = append(l, facts(v, "-"+v+"+"+strconv.Itoa(most))...)
	}
	return l
}

func random(r *rand.Rand, vars []string, n, most int, equal bool) []api.Fact {
	var l []api.Fact
	for i := 0; i < n; i++ {
		f := api.Fact{Equal: equal && r.Intn(3) == 0, L: api.Linear{Const: r.Intn(2*most+1) - most}}
		for _, v := range vars {
			if c := r.Intn(2*most+1) - most; c != 0 && r.Intn(4) > 0 {
				f.L.Terms = append(f.L.Terms, api.Coef{Var: v, C: c})
			}
		}
		l = append(l, f)
	}
	return l
}

// satisfiable looks at all points of a box.
func satisfiable(l []api.Fact, vars []string, lo, hi int) bool {
	values := make([]api.Value, len(vars))
	var try func(i int) bool
	try = func(i int) bool {
		if i == len(vars) {
			return certificate.Holds(l, values)
		}
		for n := lo; n <= hi; n++ {
			values[i] = api.Value{Var: vars[i], N: n}
			if try(i + 1) {
				return true
			}
		}
		return false
	}
	return try(0)
}

func TestBoxes(t *testing.T) { // P8.4, P8.6
	r := rand.New(rand.NewSource(1))
	for i := 0; i < 4000; i++ {
		vars, most := []string{"m", "n"}, 8
		if i%2 == 1 {
			vars, most = []string{"k", "m", "n"}, 2
		}
		l := append(box(vars, most), random(r, vars, r.Intn(6-2*len(vars)+5), 9, false)...)
		want := decide.Unsat
		if satisfiable(l, vars, 0, most) {
			want = decide.Sat
		}
		if v := verdict(t, l); v != want {
			t.Fatalf("%v: %d", l, v)
		}
		r.Shuffle(len(l), func(i, j int) { l[i], l[j] = l[j], l[i] })
		if v := verdict(t, l); v != want {
			t.Fatalf("%v in another order: %d", l, v)
		}
	}
}

func TestCertificates(t *testing.T) { // P8.3: there is one for up to 8 facts of up to 3 variables
	r := rand.New(rand.NewSource(2))
	vars := []string{"k", "m", "n"}
	count := map[int]int{}
	for i := 0; i < 20000; i++ {
		l := random(r, vars[:1+r.Intn(3)], 1+r.Intn(8), 1+r.Intn(9), r.Intn(2) == 0)
		v := verdict(t, l)
		count[v]++
		if v == decide.Unsat && i%10 == 0 && satisfiable(l, vars, -4, 4) {
			t.Fatalf("%v is satisfiable", l)
		}
	}
	if count[decide.Unsat] < 1000 || count[decide.Sat] < 1000 || count[decide.Unknown] > 100 {
		t.Errorf("%v", count)
	}
}

func TestLess(t *testing.T) { // P8.5
	r := rand.New(rand.NewSource(3))
	vars := []string{"k", "m", "n"}
	for i := 0; i < 3000; i++ {
		l := random(r, vars, 1+r.Intn(6), 5, true)
		all := verdict(t, l)
		some := verdict(t, l[:len(l)-1])
		if all == decide.Sat && some == decide.Unsat {
			t.Fatalf("%v", l)
		}
	}
}
