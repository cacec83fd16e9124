package bytecode_test

import (
	"fmt"
	"slices"
	"strings"
	"testing"

	"framewise/api"
	"framewise/bytecode"
	"framewise/element"
	"framewise/sample"
)

// op returns an instruction.
func op(code int, operands ...int) api.Op {
	n := append(operands, 0, 0, 0, 0)
	return api.Op{Code: code, A: n[0], B: n[1], C: n[2], D: n[3]}
}

// prim returns an instruction that applies a primitive.
func prim(name string, operands ...int) api.Op {
	x := op(bytecode.Prim, operands...)
	x.Prim = name
	return x
}

// examples has right instructions for 8 registers, with what they change and read, and their texts.
var examples = []struct {
	x       api.Op
	changed int
	reads   []int
	text    string
}{
	{op(bytecode.Const, 7, 1<<40), 7, nil, "const r7 1099511627776"}, {op(bytecode.Const, 0, -1<<40), 0, nil, "const r0 -1099511627776"}, {op(bytecode.Add, 1, 2, 3, 1<<20), 1, []int{2, 3}, "add r1 r2 r3 1048576"}, {op(bytecode.Add, 1, 2, 2, -1<<20), 1, []int{2, 2}, "add r1 r2 r2 -1048576"}, {op(bytecode.Add, 1, 2, 3, 0), 1, []int{2, 3}, "add r1 r2 r3 0"}, {op(bytecode.Min, 1, 2, 3), 1, []int{2, 3}, "min r1 r2 r3"}, {op(bytecode.Max, 7, 0, 7), 7, []int{0, 7}, "max r7 r0 r7"},
	{prim("neg", 5, 6), 5, []int{6}, "prim neg r5 r6"}, {prim("add", 5, 6, 5), 5, []int{6, 5}, "prim add r5 r6 r5"}, {prim("select", 1, 2, 3, 4), 1, []int{2, 3, 4}, "prim select r1 r2 r3 r4"},
	{op(bytecode.Load, 1, 2), 1, []int{2}, "load r1 r2"}, {op(bytecode.Store, 1, 2), -1, []int{1, 2}, "store r1 r2"}, {op(bytecode.Miss, 3), 3, nil, "miss r3"}, {op(bytecode.Check, 1000000, 2), -1, []int{2}, "check 1000000 r2"}, {op(bytecode.Check, 1, 0), -1, []int{0}, "check 1 r0"}, {op(bytecode.For, 1, 2, 3, 1), 1, []int{2, 3}, "for r1 r2 r3 1"}, {op(bytecode.For, 1, 2, 3, 1<<20), 1, []int{2, 3}, "for r1 r2 r3 1048576"}, {op(bytecode.If, 4), -1, []int{4}, "if r4"}, {op(bytecode.Else), -1, nil, "else"}, {op(bytecode.End), -1, nil, "end"}, {op(bytecode.Wrap, 1, 2), 1, []int{2}, "wrap r1 r2"}, {op(bytecode.Skip), -1, nil, "skip"},
}

func TestRight(t *testing.T) { // P52.1, P52.5
	for i, c := range examples {
		changed, ok := bytecode.Writes(c.x)
		if !bytecode.Right(c.x, 8) || !bytecode.Right(c.x, 1000) || ok != (c.changed >= 0) || changed != max(c.changed, 0) || !slices.Equal(bytecode.Reads(c.x), c.reads) {
			t.Errorf("%d: %d %v %v", i, changed, ok, bytecode.Reads(c.x))
		}
		if len(c.reads) > 0 || c.changed >= 0 {
			if greatest := slices.Max(append(c.reads, c.changed)); bytecode.Right(c.x, greatest) || !bytecode.Right(c.x, greatest+1) || bytecode.Right(c.x, -1) {
				t.Errorf("%d: registers", i)
			}
		}
	}
	for i, x := range []api.Op{
		{}, op(16), op(-1), op(bytecode.Const, 8, 1), op(bytecode.Const, -1, 1), op(bytecode.Const, 1, 1<<40+1), op(bytecode.Const, 1, -1<<40-1), op(bytecode.Const, 1, 2, 3), op(bytecode.Add, 1, 2, 3, 1<<20+1), op(bytecode.Add, 1, 2, 3, -1<<20-1), op(bytecode.Add, 1, 8, 3), op(bytecode.Min, 1, 2, 3, 4), op(bytecode.Max, 1, 2, -3),
		op(bytecode.Prim, 1, 2, 3), prim("reverse", 1, 2), prim("neg", 1, 2, 3), prim("add", 1, 2, 8), prim("add", 1, 2, 3, 4), {Code: bytecode.Min, Prim: "min", A: 1, B: 2, C: 3}, op(bytecode.Load, 1, 2, 3), op(bytecode.Store, 1, 8), op(bytecode.Miss, 1, 1), op(bytecode.Check, 0, 1), op(bytecode.Check, 1000001, 1), op(bytecode.Check, 1, 8), op(bytecode.For, 1, 2, 3, 0), op(bytecode.For, 1, 2, 3, 1<<20+1), op(bytecode.For, 1, 2, 8, 1), op(bytecode.If, 8), op(bytecode.Else, 1), op(bytecode.End, 0, 0, 0, 1), op(bytecode.Wrap, 1, 2, 1), op(bytecode.Skip, 1),
	} {
		if bytecode.Right(x, 8) {
			t.Errorf("%d", i)
		}
		if _, e := bytecode.Print([]api.Op{x}); e != api.ErrCode && !bytecode.Right(x, 200) {
			t.Errorf("%d: %d", i, e)
		}
	}
	if n, ok := bytecode.Writes(op(16, 3)); n != 0 || ok || bytecode.Reads(op(0, 1, 2, 3)) != nil {
		t.Error("codes that are not in the table")
	}
	if n, ok := bytecode.Writes(op(bytecode.Min, 900, -4, 5)); n != 900 || !ok || !slices.Equal(bytecode.Reads(op(bytecode.Min, 900, -4, 5)), []int{-4, 5}) {
		t.Error("instructions of any form")
	}
}

// codes returns instructions whose codes have these letters: f for, i if, e else, d end, s skip.
func codes(s string) []api.Op {
	var l []api.Op
	for _, c := range s {
		switch c {
		case 'f':
			l = append(l, op(bytecode.For, 0, 0, 0, 1))
		case 'i':
			l = append(l, op(bytecode.If))
		case 'e':
			l = append(l, op(bytecode.Else))
		case 'd':
			l = append(l, op(bytecode.End))
		default:
			l = append(l, op(bytecode.Skip))
		}
	}
	return l
}

func TestMatch(t *testing.T) { // P52.1, P52.3
	for s, want := range map[string]string{
		"": "[]", "s": "[0]", "fd": "[1 1]", "id": "[1 1]", "isesd": "[2 1 4 3 4]", "ssfd": "[0 1 3 3]", "fsifdedd": "[7 1 5 4 4 6 6 7]", "fdid": "[1 1 3 3]", "ied": "[1 2 2]",
		"f": "", "d": "", "e": "", "ed": "", "fed": "", "ieed": "", "idd": "", "ie": "", "ifde": "", "fied": "", "ifed": "", "dfd": "",
	} {
		got, ok := bytecode.Match(codes(s))
		if ok != (want != "") || ok && fmt.Sprint(got) != want || !ok && got != nil {
			t.Errorf("%s: %v %v", s, got, ok)
		}
	}
	levels := func(n int) []api.Op { return codes(strings.Repeat("f", n) + strings.Repeat("d", n)) }
	if _, ok := bytecode.Match(levels(40)); !ok {
		t.Error("40 levels")
	}
	if _, ok := bytecode.Match(levels(41)); ok {
		t.Error("41 levels")
	}
	if _, ok := bytecode.Match(codes(strings.Repeat("s", 5000))); !ok {
		t.Error("5000 instructions")
	}
	if _, ok := bytecode.Match(codes(strings.Repeat("s", 5001))); ok {
		t.Error("5001 instructions")
	}
	if got, ok := bytecode.Match([]api.Op{{Code: 99}, {Code: bytecode.If, A: -5}, {Code: bytecode.End, D: 7}}); !ok || !slices.Equal(got, []int{0, 2, 2}) {
		t.Error("codes alone")
	}
}

// block returns the codes of a random list that matches.
func block(d *sample.Dice, depth int) string {
	s := ""
	for range d.N(4) {
		switch d.N(4) {
		case 0:
			s += "s"
		case 1:
			if depth > 0 {
				s += "f" + block(d, depth-1) + "d"
			}
		case 2:
			if depth > 0 {
				s += "i" + block(d, depth-1) + "d"
			}
		case 3:
			if depth > 0 {
				s += "i" + block(d, depth-1) + "e" + block(d, depth-1) + "d"
			}
		}
	}
	return s
}

func TestInserted(t *testing.T) { // P52.3
	d := sample.NewDice(20)
	for range 500 {
		s, more := block(d, 3), block(d, 3)
		at := d.N(len(s) + 1)
		match, ok := bytecode.Match(codes(s))
		all, isAll := bytecode.Match(codes(s[:at] + more + s[at:]))
		if !ok || !isAll {
			t.Fatalf("%s %s", s, more)
		}
		moved := func(i int) int {
			if i >= at {
				return i + len(more)
			}
			return i
		}
		for i, m := range match {
			if all[moved(i)] != moved(m) {
				t.Fatalf("%s: %v, with %s: %v", s, match, more, all)
			}
			if m > i {
				if _, ok := bytecode.Match(codes(s[i+1 : m])); !ok {
					t.Fatalf("%s", s[i+1:m])
				}
			}
		}
	}
}

func TestTexts(t *testing.T) { // P52.1, P52.2
	var all []api.Op
	text := ""
	for _, c := range examples {
		all = append(all, c.x)
		text += c.text + "\n"
	}
	if got, e := bytecode.Print(all); got != text || e != api.OK {
		t.Errorf("%s %d", got, e)
	}
	if got, line, e := bytecode.Parse(text); !slices.Equal(got, all) || line != 0 || e != api.OK {
		t.Errorf("%v %d %d", got, line, e)
	}
	if got, e := bytecode.Print(nil); got != "" || e != api.OK {
		t.Errorf("%q %d", got, e)
	}
	many := slices.Repeat(codes("s"), 5001)
	if got, e := bytecode.Print(many); got != "" || e != api.ErrLimit {
		t.Errorf("%d", e)
	}
	if _, e := bytecode.Print(append(many, op(0))); e != api.ErrCode {
		t.Errorf("%d", e)
	}
	if got, e := bytecode.Print(many[:5000]); len(got) != 25000 || e != api.OK {
		t.Errorf("%d", e)
	}
	if _, e := bytecode.Print([]api.Op{op(bytecode.Miss, 200)}); e != api.ErrCode {
		t.Errorf("%d", e)
	}
	skips := strings.Repeat("skip\n", 5000)
	for s, want := range map[string]struct {
		count, line int
		e           api.Errno
	}{
		"": {0, 0, 0}, "skip\n": {1, 0, 0}, "skip": {0, 0, api.ErrSyntax}, "skip\nend": {0, 1, api.ErrSyntax}, "skip\n\n": {0, 1, api.ErrSyntax}, "\n": {0, 0, api.ErrSyntax}, skips: {5000, 0, 0}, skips + "skip\n": {0, 5000, api.ErrLimit}, skips + "x": {0, 5000, api.ErrLimit}, skips[5:] + "x\n" + skips: {0, 4999, api.ErrSyntax},
		" skip\n": {0, 0, api.ErrSyntax}, "skip \n": {0, 0, api.ErrSyntax}, "skip r0\n": {0, 0, api.ErrSyntax}, "skip\r\n": {0, 0, api.ErrSyntax}, "Skip\n": {0, 0, api.ErrSyntax}, "miss  r1\n": {0, 0, api.ErrSyntax}, "miss 1\n": {0, 0, api.ErrSyntax}, "miss r\n": {0, 0, api.ErrSyntax}, "miss rr1\n": {0, 0, api.ErrSyntax}, "miss r-1\n": {0, 0, api.ErrSyntax}, "miss r+1\n": {0, 0, api.ErrSyntax}, "miss r01\n": {0, 0, api.ErrSyntax}, "miss r199\n": {1, 0, 0}, "miss r200\n": {0, 0, api.ErrSyntax}, "miss\n": {0, 0, api.ErrSyntax}, "const r1 -0\n": {0, 0, api.ErrSyntax}, "const r1 +1\n": {0, 0, api.ErrSyntax}, "const r1 r1\n": {0, 0, api.ErrSyntax}, "const r1 1_0\n": {0, 0, api.ErrSyntax}, "const r1 0x1\n": {0, 0, api.ErrSyntax}, "const r1 99999999999999999999\n": {0, 0, api.ErrSyntax}, "const r1 1099511627777\n": {0, 0, api.ErrSyntax}, "prim\n": {0, 0, api.ErrSyntax}, "prim reverse r1 r2\n": {0, 0, api.ErrSyntax}, "prim neg r1 r2 r3\n": {0, 0, api.ErrSyntax}, "prim add r1 r2\n": {0, 0, api.ErrSyntax}, "prim add r1 r2 r3\n": {1, 0, 0}, "check 0 r1\n": {0, 0, api.ErrSyntax}, "for r1 r2 r3 0\n": {0, 0, api.ErrSyntax}, "jump r1\n": {0, 0, api.ErrSyntax}, "end\nend\nelse\n": {3, 0, 0},
	} {
		ops, line, e := bytecode.Parse(s)
		if len(ops) != want.count || line != want.line || e != want.e {
			t.Errorf("%.30q: %d %d %d", s, len(ops), line, e)
		}
	}
}

// randomOp returns an instruction that is right for a number of registers.
func randomOp(d *sample.Dice, regs int) api.Op {
	for {
		x := op(1+d.N(15), d.N(regs), d.N(regs), d.N(regs), d.N(regs))
		if x.Code == bytecode.Prim {
			x.Prim = sample.Pick(d, element.Ops()...)
		}
		for _, p := range []*int{&x.A, &x.B, &x.C, &x.D} {
			if y := x; !bytecode.Right(y, regs) {
				*p = d.N(2)
				if d.N(2) == 0 {
					*p = 0
				}
			}
		}
		if x.Code == bytecode.Const {
			x.B = d.N(1<<41) - 1<<40
		}
		if x.Code == bytecode.Add {
			x.D = d.N(1<<21) - 1<<20
		}
		if bytecode.Right(x, regs) {
			return x
		}
	}
}

func TestRandomTexts(t *testing.T) { // P52.2, P52.5
	d := sample.NewDice(21)
	for range 400 {
		var ops []api.Op
		for range d.N(8) {
			x := randomOp(d, 6)
			ops = append(ops, x)
			regs := bytecode.Reads(x)
			if a, ok := bytecode.Writes(x); ok {
				regs = append(regs, a)
			}
			if slices.ContainsFunc(regs, func(r int) bool { return r < 0 || r >= 6 }) || !bytecode.Right(x, 7) {
				t.Fatalf("%v", x)
			}
		}
		text, e := bytecode.Print(ops)
		if back, _, f := bytecode.Parse(text); e != api.OK || f != api.OK || !slices.Equal(back, ops) {
			t.Fatalf("%s", text)
		}
		if text == "" {
			continue
		}
		changed := []byte(text)
		changed[d.N(len(text))] = sample.Pick(d, []byte(" r019-\nade")...)
		if ops, _, e := bytecode.Parse(string(changed)); e == api.OK {
			if back, _ := bytecode.Print(ops); back != string(changed) {
				t.Fatalf("%q", changed)
			}
		}
	}
}

// program is a valid program.
func program() api.Bytecode {
	return api.Bytecode{
		Regs: 4, Arena: 20, Ops: append(codes("fd"), op(bytecode.Load, 1, 2)),
		Inputs: []api.Place{{Offset: 0, Size: 6}, {Offset: 19, Size: 1}}, Results: []api.Place{{Offset: 14, Size: 6}},
		Types: []api.Array{{Elem: api.Int, Dims: []int{2, 3}}, {Elem: api.Bool}, {Elem: api.Bool, Dims: []int{6}}},
	}
}

func TestValid(t *testing.T) { // P52.1, P52.4
	if !bytecode.Valid(program()) || !bytecode.Valid(api.Bytecode{}) {
		t.Fatal("valid programs")
	}
	for i, f := range []func(b *api.Bytecode){
		func(b *api.Bytecode) { b.Regs = 201 }, func(b *api.Bytecode) { b.Regs = -1 }, func(b *api.Bytecode) { b.Regs = 2 }, func(b *api.Bytecode) { b.Arena = -1 }, func(b *api.Bytecode) { b.Arena = 1<<20 + 1 }, func(b *api.Bytecode) { b.Arena = 19 }, func(b *api.Bytecode) { b.Ops = b.Ops[1:] }, func(b *api.Bytecode) { b.Ops[2].Prim = "x" }, func(b *api.Bytecode) { b.Ops = slices.Repeat(codes("s"), 5001) }, func(b *api.Bytecode) { b.Types = b.Types[1:] }, func(b *api.Bytecode) { b.Types = append(b.Types, b.Types[0]) }, func(b *api.Bytecode) { b.Inputs = b.Inputs[1:] }, func(b *api.Bytecode) { b.Results = nil },
		func(b *api.Bytecode) { b.Types[0].Elem = "" }, func(b *api.Bytecode) { b.Types[0].Elem = "A" }, func(b *api.Bytecode) { b.Types[0].Data = []int{1, 2, 3, 4, 5, 6} }, func(b *api.Bytecode) { b.Types[0].Dims = []int{6, 0} }, func(b *api.Bytecode) { b.Types[0].Dims = []int{-2, -3} }, func(b *api.Bytecode) { b.Types[1].Dims = []int{1, 1, 1, 1, 1, 1, 1} }, func(b *api.Bytecode) { b.Inputs[0].Size = 5 }, func(b *api.Bytecode) { b.Inputs[0].Offset = -1 }, func(b *api.Bytecode) { b.Inputs[0].Offset = 15 }, func(b *api.Bytecode) { b.Results[0].Offset = 1<<63 - 1 }, func(b *api.Bytecode) { b.Results[0].Size = 0 },
	} {
		b := program()
		f(&b)
		if bytecode.Valid(b) {
			t.Errorf("%d", i)
		}
		if bytes, e := bytecode.Encode(b); e != api.ErrCode || bytes != nil {
			t.Errorf("%d: %d", i, e)
		}
	}
	b := program()
	b.Regs, b.Arena, b.Inputs[0].Offset = 200, 1<<20, 1<<20-6
	if !bytecode.Valid(b) {
		t.Error("the limits")
	}
}

func TestEncode(t *testing.T) { // P52.4
	b := program()
	b.Ops = codes("s")
	bytes, e := bytecode.Encode(b)
	want := []byte{132, 148, 133, 's', 'k', 'i', 'p', '\n', 130, 129, 128, 147, 142, 131, 'i', 'n', 't', 130, 130, 131, 132, 'b', 'o', 'o', 'l', 128, 132, 'b', 'o', 'o', 'l', 129, 134}
	if !slices.Equal(bytes, want) || e != api.OK {
		t.Errorf("%v %d", bytes, e)
	}
	d := sample.NewDice(22)
	for range 300 {
		b := program()
		b.Ops = codes(block(d, 2))
		for i := range b.Ops {
			if d.N(2) == 0 && b.Ops[i].Code == bytecode.Skip {
				b.Ops[i] = op(bytecode.Const, d.N(4), d.N(1<<30))
			}
		}
		b.Results[0].Offset, b.Arena = d.N(300), 400+d.N(5)
		if d.N(3) == 0 {
			b.Inputs, b.Types = nil, b.Types[2:]
		}
		bytes, e := bytecode.Encode(b)
		back, f := bytecode.Decode(bytes)
		again, _ := bytecode.Encode(back)
		if e != api.OK || f != api.OK || !slices.Equal(bytes, again) || !slices.Equal(back.Ops, b.Ops) || !slices.Equal(back.Results, b.Results) || !slices.Equal(back.Inputs, b.Inputs) {
			t.Fatalf("%d %d", e, f)
		}
		if _, e := bytecode.Decode(bytes[:d.N(len(bytes))]); e != api.ErrForm {
			t.Fatalf("%d", e)
		}
		if _, e := bytecode.Decode(append(bytes, 128)); e != api.ErrForm {
			t.Fatalf("%d", e)
		}
		changed := slices.Clone(bytes)
		changed[d.N(len(bytes))] = byte(d.N(256))
		if back, e := bytecode.Decode(changed); e == api.OK {
			if again, _ := bytecode.Encode(back); !slices.Equal(again, changed) {
				t.Fatalf("%v", changed)
			}
		} else if e != api.ErrForm || back.Ops != nil || back.Types != nil {
			t.Fatalf("%d", e)
		}
	}
	if _, e := bytecode.Decode(nil); e != api.ErrForm {
		t.Errorf("%d", e)
	}
}
