package conflict_test

import (
	"math/rand"
	"slices"
	"testing"

	"framewise/api"
	"framewise/conflict"
	"framewise/linear"
	"framewise/types"
)

func typ(s string) api.Type {
	t, e := types.Parse(s)
	if e != api.OK {
		panic(s)
	}
	return t
}

func same(line int, a, b string) api.Constraint {
	return api.Constraint{Kind: api.ConsSame, Line: line, A: typ(a), B: typ(b)}
}

func least(line int, s string) api.Constraint {
	l, _ := linear.Parse(s)
	return api.Constraint{Kind: api.ConsLeast, Line: line, L: l}
}

func TestContradict(t *testing.T) { // P16.1
	for i, c := range []struct {
		l    []api.Constraint
		want bool
	}{
		{nil, false}, {[]api.Constraint{same(1, "int", "bool")}, true}, {[]api.Constraint{same(1, "[n]int", "int")}, true}, {[]api.Constraint{same(1, "[2]int", "[3]int")}, true}, {[]api.Constraint{least(1, "-1")}, true}, {[]api.Constraint{same(1, "[n]A", "[3]A")}, false},
		{[]api.Constraint{same(1, "[1000000]A", "[-1]A")}, false}, {[]api.Constraint{same(1, "[_7..]A", "B"), same(2, "[_7..]A", "[_800000]A"), least(3, "_7")}, true}, {[]api.Constraint{same(1, "int", "bool"), {}}, false}, {[]api.Constraint{same(1, "[_950000]int", "bool")}, false},
	} {
		if conflict.Contradict(c.l) != c.want {
			t.Errorf("%d", i)
		}
	}
}

func TestLines(t *testing.T) { // P16.1
	l := []api.Constraint{{Line: 7, A: typ("[n]int")}, {Line: -3}, {Line: 7}, {Line: 0}}
	if !slices.Equal(conflict.Lines(l), []int{-3, 0, 7}) || conflict.Lines(nil) != nil {
		t.Error("Lines")
	}
	rest := conflict.Without(l, -3)
	if len(rest) != 3 || rest[1].Line != 7 || len(conflict.Without(l, 7)) != 2 || len(conflict.Without(l, 9)) != 4 {
		t.Error("Without")
	}
	rest[0].A.Shape.Dims[0].Terms[0].Var = "z"
	if !types.Equal(l[0].A, typ("[n]int")) {
		t.Error("memory is shared")
	}
}

func TestMinimal(t *testing.T) { // P16.1, P16.4, P16.5
	for i, c := range []struct {
		l    []api.Constraint
		want []int
		e    api.Errno
	}{
		{[]api.Constraint{same(1, "[n]int", "[3]A"), same(2, "A", "bool"), same(3, "[n]int", "[4]int")}, []int{1, 3}, api.OK},
		{[]api.Constraint{same(9, "int", "bool"), same(2, "A", "bool"), same(3, "A", "int")}, []int{9}, api.OK},
		{[]api.Constraint{same(4, "A", "int"), same(4, "A", "bool"), same(4, "B", "bool")}, []int{4}, api.OK},
		{[]api.Constraint{same(1, "A", "int"), same(2, "A", "B"), same(3, "B", "C"), same(4, "C", "bool"), least(5, "n-1")}, []int{1, 2, 3, 4}, api.OK},
		{[]api.Constraint{least(3, "n-2"), least(1, "1-n"), least(2, "3-n"), same(7, "[n]A", "[2]A")}, []int{1, 7}, api.OK},
		{[]api.Constraint{same(1, "A", "int")}, nil, api.ErrState},
		{nil, nil, api.ErrState},
		{[]api.Constraint{{}}, nil, api.ErrArg},
	} {
		l, e := conflict.Minimal(c.l)
		if !slices.Equal(l, c.want) || e != c.e {
			t.Errorf("%d: %v %d", i, l, e)
		}
	}
}

func TestRandom(t *testing.T) { // P16.2, P16.3
	r := rand.New(rand.NewSource(1))
	names := []string{"A", "B", "C", "int", "bool", "[n]A", "[m]B", "[2]C", "[n+1]int", "[r..]A"}
	found := 0
	for i := 0; i < 1500; i++ {
		var l []api.Constraint
		for j := 2 + r.Intn(8); j > 0; j-- {
			if r.Intn(3) == 0 {
				l = append(l, least(1+r.Intn(6), []string{"n-2", "1-m", "m-n", "-n+1"}[r.Intn(4)]))
			} else {
				l = append(l, same(1+r.Intn(6), names[r.Intn(len(names))], names[r.Intn(len(names))]))
			}
		}
		lines, e := conflict.Minimal(l)
		if e != api.OK {
			continue
		}
		found++
		rest := slices.Clone(l)
		for _, line := range conflict.Lines(l) {
			if !slices.Contains(lines, line) {
				rest = conflict.Without(rest, line)
			}
		}
		if !conflict.Contradict(rest) {
			t.Fatalf("%v: %v", l, lines)
		}
		for _, line := range lines {
			if conflict.Contradict(conflict.Without(rest, line)) {
				t.Fatalf("%v: %v without %d", l, lines, line)
			}
		}
	}
	if found < 300 {
		t.Error(found)
	}
}
