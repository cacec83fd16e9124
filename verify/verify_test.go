package verify_test

import (
	"fmt"
	"strings"
	"testing"

	"framewise/api"
	"framewise/bytecode"
	"framewise/element"
	"framewise/sample"
	"framewise/verify"
)

type ranges = []verify.Range

func TestPrim(t *testing.T) { // P53.1
	all := verify.Range{Lo: element.Least, Hi: element.Greatest}
	truth := verify.Range{Lo: 0, Hi: 1}
	for i, c := range []struct {
		op   string
		args ranges
		want verify.Range
		ok   bool
	}{
		{"add", ranges{{1, 3}, {-5, 7}}, verify.Range{Lo: -4, Hi: 10}, true}, {"add", ranges{{1, 3}, {0, element.Greatest}}, all, true}, {"add", ranges{{0, 1}, {0, element.Greatest - 1}}, verify.Range{Lo: 0, Hi: element.Greatest}, true}, {"sub", ranges{{1, 3}, {-5, 7}}, verify.Range{Lo: -6, Hi: 8}, true}, {"mul", ranges{{-2, 3}, {-5, 7}}, verify.Range{Lo: -15, Hi: 21}, true}, {"mul", ranges{all, all}, all, true}, {"mul", ranges{{0, 0}, all}, verify.Range{}, true}, {"mul", ranges{{1, 1 << 16}, {1, 1 << 15}}, all, true},
		{"min", ranges{{1, 9}, {3, 5}}, verify.Range{Lo: 1, Hi: 5}, true}, {"max", ranges{{1, 9}, {3, 5}}, verify.Range{Lo: 3, Hi: 9}, true}, {"mod", ranges{all, {1, 8}}, verify.Range{Lo: 0, Hi: 7}, true}, {"mod", ranges{{1, 1}, {0, 8}}, all, true}, {"mod", ranges{{1, 1}, {-8, -8}}, all, true}, {"sign", ranges{{4, 5}}, verify.Range{Lo: -1, Hi: 1}, true}, {"lt", ranges{{4, 5}, {1, 2}}, truth, true}, {"eq", ranges{{4, 5}, {4, 5}}, truth, true}, {"not", ranges{{1, 1}}, truth, true}, {"toint", ranges{{1, 1}}, truth, true}, {"and", ranges{{1, 1}, {0, 0}}, truth, true}, {"select", ranges{{0, 1}, {4, 5}, {-7, 1}}, verify.Range{Lo: -7, Hi: 5}, true}, {"div", ranges{{4, 4}, {2, 2}}, all, true}, {"neg", ranges{{4, 4}}, all, true}, {"abs", ranges{{4, 4}}, all, true},
		{"", nil, verify.Range{}, false}, {"reverse", ranges{{1, 1}}, verify.Range{}, false}, {"add", ranges{{1, 1}}, verify.Range{}, false}, {"neg", ranges{{1, 1}, {1, 1}}, verify.Range{}, false}, {"add", ranges{{1, 1}, {2, 1}}, verify.Range{}, false}, {"neg", ranges{{element.Least - 1, 0}}, verify.Range{}, false}, {"neg", ranges{{0, element.Greatest + 1}}, verify.Range{}, false}, {"not", ranges{{0, 2}}, verify.Range{}, false}, {"select", ranges{{-1, 0}, {0, 0}, {0, 0}}, verify.Range{}, false}, {"eq", ranges{{0, 0}, {0, element.Greatest + 1}}, verify.Range{}, false},
	} {
		if got, ok := verify.Prim(c.op, c.args); got != c.want || ok != c.ok {
			t.Errorf("%d: %v %v", i, got, ok)
		}
	}
}

func TestPrims(t *testing.T) { // P53.2
	d := sample.NewDice(23)
	some := func() int {
		return sample.Pick(d, 0, 1, d.N(9)-4, element.Least, element.Greatest, d.N(1<<32)+element.Least)
	}
	between := func(r verify.Range) int { return sample.Pick(d, r.Lo, r.Hi, r.Lo+d.N(r.Hi-r.Lo+1)) }
	for range 20000 {
		op := sample.Pick(d, element.Ops()...)
		params, _, _ := element.Types(op)
		var args, greater ranges
		var values []int
		for _, p := range params {
			a, b := some(), some()
			least, greatest := element.Least, element.Greatest
			if p == api.Bool {
				a, b, least, greatest = a&1, b&1, 0, 1
			}
			r := verify.Range{Lo: min(a, b), Hi: max(a, b)}
			args = append(args, r)
			greater = append(greater, verify.Range{Lo: max(r.Lo-d.N(3), least), Hi: min(r.Hi+d.N(3), greatest)})
			values = append(values, between(r))
		}
		n, isDone := element.Apply(op, values)
		r, ok := verify.Prim(op, args)
		q, isOK := verify.Prim(op, greater)
		if !isDone || !ok || !isOK || n < r.Lo || n > r.Hi || q.Lo > r.Lo || q.Hi < r.Hi {
			t.Fatalf("%s %v: %v, %v: %d", op, args, r, q, n)
		}
	}
}

// program returns the program with the text of its instructions, for 6 registers and 4 words.
func program(lines ...string) api.Bytecode {
	ops, line, e := bytecode.Parse(strings.Join(lines, "\n") + "\n")
	if e != api.OK {
		panic(lines[line])
	}
	return api.Bytecode{Regs: 6, Arena: 4, Ops: ops}
}

func TestBefore(t *testing.T) { // P53.1
	for i, c := range []struct {
		lines []string
		at    int
		want  string // of the first registers
	}{
		{[]string{"const r0 5", "skip"}, 1, "[{5 5} {0 0}]"}, {[]string{"const r0 5", "const r1 -3", "add r1 r0 r1 -2", "skip"}, 3, "[{5 5} {11 11}]"}, {[]string{"const r0 1099511627776", "const r1 1", "add r1 r0 r1 1", "skip"}, 3, "[{1099511627776 1099511627776} {-1099511627776 1099511627776}]"}, {[]string{"load r0 r1", "const r1 7", "min r1 r0 r1", "skip"}, 3, "[{-2147483648 2147483647} {-2147483648 7}]"}, {[]string{"load r0 r1", "const r1 7", "max r1 r0 r1", "skip"}, 3, "[{-2147483648 2147483647} {7 2147483647}]"}, {[]string{"const r0 5", "miss r0", "skip"}, 2, "[{0 0}]"}, {[]string{"const r0 5", "wrap r1 r0", "skip"}, 2, "[{5 5} {5 5}]"}, {[]string{"const r0 2147483648", "wrap r1 r0", "skip"}, 2, "[{2147483648 2147483648} {-2147483648 2147483647}]"},
		{[]string{"const r0 5", "prim add r1 r0 r0", "skip"}, 2, "[{5 5} {10 10}]"}, {[]string{"const r0 2147483648", "prim add r1 r0 r0", "skip"}, 2, "[{2147483648 2147483648} {-2147483648 2147483647}]"}, {[]string{"const r0 2", "prim not r1 r0", "skip"}, 2, "[{2 2} {0 1}]"}, {[]string{"const r0 2", "prim toint r1 r0", "skip"}, 2, "[{2 2} {-2147483648 2147483647}]"}, {[]string{"const r0 2", "store r0 r0", "check 3 r0", "skip"}, 3, "[{2 2} {0 0}]"},
		{[]string{"if r0", "const r0 7", "else", "const r0 9", "end", "skip"}, 5, "[{7 7}]"}, {[]string{"if r0", "const r0 7", "else", "const r0 9", "end", "skip"}, 3, "[]"}, {[]string{"const r0 -1", "if r0", "const r0 7", "end", "skip"}, 4, "[{-1 -1}]"}, {[]string{"const r0 -1", "if r0", "const r0 7", "end", "skip"}, 2, "[]"}, {[]string{"load r0 r1", "if r0", "skip", "else", "skip", "end", "skip"}, 2, "[{0 2147483647}]"}, {[]string{"load r0 r1", "if r0", "skip", "else", "skip", "end", "skip"}, 4, "[{-2147483648 -1}]"}, {[]string{"load r0 r1", "if r0", "const r0 3", "else", "const r0 9", "end", "skip"}, 6, "[{3 9}]"}, {[]string{"load r0 r1", "if r0", "const r0 3", "end", "skip"}, 4, "[{-2147483648 3}]"}, {[]string{"load r0 r1", "if r0", "const r0 3", "else", "skip", "end", "skip"}, 3, "[]"}, {[]string{"load r0 r1", "if r0", "const r0 3", "else", "skip", "end", "skip"}, 5, "[]"},
		{[]string{"const r1 4", "for r0 r2 r1 1", "skip", "end", "skip"}, 2, "[{0 3} {4 4}]"}, {[]string{"const r1 4", "for r0 r2 r1 1", "skip", "end", "skip"}, 4, "[{-2147483648 2147483647} {4 4}]"}, {[]string{"const r1 2", "for r0 r2 r1 3", "skip", "end", "skip"}, 4, "[{0 1} {2 2}]"}, {[]string{"for r0 r2 r1 1", "skip", "end", "skip"}, 1, "[]"}, {[]string{"for r0 r2 r1 1", "skip", "end", "skip"}, 3, "[{0 0} {0 0}]"},
		{[]string{"const r5 9", "for r5 r0 r5 1", "add r1 r1 r5 1", "end", "skip"}, 4, "[{0 0} {-1099511627776 1099511627776} {0 0} {0 0} {0 0} {-2147483648 2147483647}]"},
		{[]string{"const r5 9", "for r4 r0 r5 1", "prim add r1 r1 r5", "end", "skip"}, 2, "[{0 0} {-2147483648 2147483647}]"}, {[]string{"const r5 9", "for r4 r0 r5 1", "const r1 1", "end", "skip"}, 2, "[{0 0} {0 1}]"}, {[]string{"const r5 9", "for r4 r0 r5 1", "const r1 -1", "end", "skip"}, 2, "[{0 0} {-1 1}]"}, {[]string{"const r5 9", "for r4 r0 r5 1", "const r1 2", "end", "skip"}, 4, "[{0 0} {-2147483648 2147483647}]"}, {[]string{"const r5 9", "for r4 r0 r5 1", "const r1 2147483648", "end", "skip"}, 4, "[{0 0} {-1099511627776 1099511627776}]"},
		// The inner loop has no values at first.
		{[]string{"const r5 3", "for r4 r0 r5 1", "for r3 r0 r1 1", "const r2 1", "end", "const r1 1", "end", "skip"}, 3, "[{0 0} {0 1} {0 1} {0 0}]"},
		{[]string{"const r5 3", "for r4 r0 r5 1", "for r3 r0 r5 1", "const r2 1", "end", "skip", "end", "skip"}, 5, "[{0 0} {0 0} {0 1} {-2147483648 2147483647}]"},
		{[]string{"end"}, 0, ""},
	} {
		b := program(c.lines...)
		before := verify.Before(b)
		if c.want == "" {
			if before != nil {
				t.Errorf("%d: %v", i, before)
			}
			continue
		}
		got := fmt.Sprint(before[c.at])
		if len(before) != len(b.Ops) || !strings.HasPrefix(got, strings.TrimSuffix(c.want, "]")) || (got == "[]") != (c.want == "[]") {
			t.Errorf("%d: %s", i, got)
		}
	}
}

func TestVerify(t *testing.T) { // P53.1, P53.5
	for i, c := range []struct {
		lines []string
		at    int
		e     api.Errno
	}{
		{[]string{"const r0 0", "const r1 4", "for r2 r0 r1 1", "load r3 r2", "end"}, 5, 0}, {[]string{"const r0 0", "const r1 5", "for r2 r0 r1 1", "load r3 r2", "end"}, 3, api.ErrCode}, {[]string{"const r0 -1", "load r3 r0"}, 1, api.ErrCode}, {[]string{"const r0 3", "store r0 r1"}, 2, 0}, {[]string{"const r0 4", "store r0 r1"}, 1, api.ErrCode}, {[]string{"const r0 2147483648", "store r1 r0"}, 1, api.ErrCode}, {[]string{"const r0 2147483648", "wrap r0 r0", "store r1 r0"}, 3, 0}, {[]string{"const r0 1099511627776", "const r1 1", "add r1 r0 r1 1"}, 2, api.ErrCode}, {[]string{"const r0 1099511627776", "const r1 1", "add r1 r0 r1 -1"}, 3, 0}, {[]string{"const r0 2", "prim not r1 r0"}, 1, api.ErrCode}, {[]string{"prim not r1 r0", "load r1 r1"}, 2, 0}, {[]string{"const r0 9", "for r1 r0 r0 1", "load r0 r0", "end"}, 4, 0}, {[]string{"load r0 r1", "if r0", "const r1 3", "min r0 r0 r1", "load r2 r0", "else", "load r0 r0", "end"}, 6, api.ErrCode}, {[]string{"end"}, 0, api.ErrArg}, {[]string{"load r0 r5", "const r4 9", "load r4 r4", "const r4 8", "load r4 r4"}, 2, api.ErrCode},
	} {
		b := program(c.lines...)
		if at, e := verify.Verify(b); at != c.at || e != c.e {
			t.Errorf("%d: %d %d", i, at, e)
		}
	}
	b := program("const r0 0", "const r1 4", "for r2 r0 r1 1", "load r3 r2", "end")
	b.Arena = 3
	if at, e := verify.Verify(b); at != 3 || e != api.ErrCode {
		t.Errorf("%d %d", at, e)
	}
	if at, e := verify.Verify(api.Bytecode{}); at != 0 || e != api.OK {
		t.Errorf("%d %d", at, e)
	}
	if at, e := verify.Verify(api.Bytecode{Ops: []api.Op{{Code: bytecode.Skip}}}); at != 1 || e != api.OK {
		t.Errorf("%d %d", at, e)
	}
	deep := api.Bytecode{Regs: 200, Arena: 1}
	for k := range 40 {
		deep.Ops = append(deep.Ops, sample.MachineOp(bytecode.Const, 41, 1), sample.MachineOp(bytecode.For, k, 40, 41, 1), sample.MachineOp(bytecode.Add, 42+k, 42+(k+39)%40, 42+k, 1))
	}
	for range 40 {
		deep.Ops = append(deep.Ops, sample.MachineOp(bytecode.End))
	}
	if _, e := verify.Verify(deep); e != api.ErrCode && e != api.OK {
		t.Errorf("%d", e)
	}
}

func TestRandom(t *testing.T) { // P53.3, P53.4, P53.5
	d := sample.NewDice(24)
	verified, looked := 0, 0
	for range 6000 {
		b := sample.Bytecode(d)
		before := verify.Before(b)
		at, e := verify.Verify(b)
		if e == api.OK {
			verified++
			longer := b
			longer.Arena += 1 + d.N(5)
			if _, e := verify.Verify(longer); e != api.OK {
				t.Fatalf("%d", e)
			}
		}
		if e == api.OK && at != len(b.Ops) {
			t.Fatalf("%d", at)
		}
		for range 3 {
			var arena []int
			for range b.Arena {
				arena = append(arena, sample.Pick(d, 0, 1, -1, d.N(14)-1, element.Greatest, element.Least))
			}
			m := sample.NewMachine(b, arena)
			m.Look = func(at int, regs []int) {
				looked++
				if len(before[at]) != len(regs) {
					text, _ := bytecode.Print(b.Ops)
					t.Fatalf("%s: the dead instruction %d is carried out", text, at)
				}
				for r, n := range regs {
					if q := before[at][r]; n < q.Lo || n > q.Hi {
						text, _ := bytecode.Print(b.Ops)
						t.Fatalf("%s: register %d is %d before %d: %v", text, r, n, at, q)
					}
				}
			}
			if !m.Run() && e == api.OK && m.Steps <= m.Most {
				text, _ := bytecode.Print(b.Ops)
				t.Fatalf("%s fails", text)
			}
		}
	}
	if verified < 1000 || looked < 50000 || verify.Before(api.Bytecode{Regs: -1}) != nil {
		t.Errorf("%d %d", verified, looked)
	}
}
