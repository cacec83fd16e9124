package machine_test

import (
	"fmt"
	"maps"
	"slices"
	"strings"
	"testing"

	"framewise/api"
	"framewise/array"
	"framewise/bytecode"
	"framewise/element"
	"framewise/machine"
	"framewise/sample"
	"framewise/verify"
)

// program has the input [3]int in the words 0 to 2 and [2]bool in 3 and 4, and the results [3]int from 0 on and [2]bool from 4 on. Its instructions have a text, with semicolons for the line feeds.
func program(arena int, text string) api.Bytecode {
	ops, at, e := bytecode.Parse(strings.ReplaceAll(text, "; ", "\n") + "\n")
	if e != api.OK {
		panic(fmt.Sprint(text, at))
	}
	return api.Bytecode{
		Regs: 8, Arena: arena, Ops: ops, Inputs: []api.Place{{Offset: 0, Size: 3}, {Offset: 3, Size: 2}}, Results: []api.Place{{Offset: 0, Size: 3}, {Offset: 4, Size: 2}},
		Types: []api.Array{{Elem: api.Int, Dims: []int{3}}, {Elem: api.Bool, Dims: []int{2}}, {Elem: api.Int, Dims: []int{3}}, {Elem: api.Bool, Dims: []int{2}}},
	}
}

func inputs() []api.Array { return sample.Arrays("#[3: 5 6 7]", "#b[2: 0 1]") }

func TestRun(t *testing.T) { // P55.1
	for i, c := range []struct {
		text, want string
		counts     api.Counts
		violated   []int
		steps      int
	}{
		{"const r1 3; for r2 r0 r1 1; load r3 r2; prim neg r3 r3; store r2 r3; end", "#[3: -5 -6 -7] #b[2: 1 0] ", api.Counts{Reads: 3, Writes: 3, Ops: 3, Peak: 5}, nil, 14},
		{"const r1 5; const r2 -2147483648; store r1 r2", "#[3: 5 6 7] #b[2: 1 1] ", api.Counts{Writes: 1, Peak: 6}, nil, 3},
		{"const r1 4; store r1 r0", "#[3: 5 6 7] #b[2: 0 0] ", api.Counts{Writes: 1, Peak: 5}, nil, 2},
		// Registers that the body changes: the loop is carried out 3 times, and its variable keeps what the body gives it.
		{"const r1 3; for r2 r0 r1 1; const r1 9; const r0 8; const r2 100; add r3 r3 r2 2; end; const r4 0; store r4 r2; const r4 1; store r4 r3", "#[3: 100 600 7] #b[2: 1 0] ", api.Counts{Writes: 2, Peak: 5}, nil, 21},
		{"const r1 8; const r2 1; for r2 r2 r1 3; add r3 r3 r2 1; end; store r0 r3; const r4 2; store r4 r2", "#[3: 12 6 7] #b[2: 1 0] ", api.Counts{Writes: 2, Peak: 5}, nil, 12},
		{"const r1 -1; for r2 r0 r1 1; skip; end; for r2 r0 r0 1; skip; end; store r0 r2", "#[3: 0 6 7] #b[2: 1 0] ", api.Counts{Writes: 1, Peak: 5}, nil, 4},
		{"if r0; const r0 -1; miss r1; else; skip; end; if r0; skip; else; check 7 r1; end; if r0; skip; end", "#[3: 5 6 7] #b[2: 1 0] ", api.Counts{Reads: 1, Peak: 5}, []int{7}, 6},
		{"check 9 r0; check 2 r0; const r1 -5; check 3 r1; check 2 r0", "#[3: 5 6 7] #b[2: 1 0] ", api.Counts{Peak: 5}, []int{2, 9}, 5},
		{"const r1 1099511627776; wrap r2 r1; store r0 r2; const r1 2147483648; wrap r2 r1; const r1 1; store r1 r2; min r3 r1 r2; max r4 r1 r2; const r1 2; add r4 r4 r3 0; store r1 r4", "#[3: 0 -2147483648 1] #b[2: 1 0] ", api.Counts{Writes: 3, Peak: 5}, nil, 12},
		{"load r1 r0; const r2 2; prim mul r1 r1 r2; prim select r1 r0 r2 r1; store r0 r1; skip", "#[3: 10 6 7] #b[2: 1 0] ", api.Counts{Reads: 1, Writes: 2, Ops: 2, Peak: 5}, nil, 6},
		{"for r0 r0 r0 1; end", "#[3: 5 6 7] #b[2: 1 0] ", api.Counts{Peak: 5}, nil, 1},
	} {
		b := program(9, c.text)
		out, e := machine.Run(b, inputs())
		if got := sample.Text(out.Results); got != c.want || out.Counts != c.counts || !slices.Equal(out.Violated, c.violated) || e != api.OK {
			t.Errorf("%d: %s %v %v %d", i, got, out.Counts, out.Violated, e)
		}
		steps, e := machine.Steps(b, inputs())
		at, f := machine.Fault(b, inputs())
		if steps != c.steps || e != api.OK || at != len(b.Ops) || f != api.OK {
			t.Errorf("%d: %d steps %d, %d %d", i, steps, e, at, f)
		}
	}
	if out, e := machine.Run(api.Bytecode{}, nil); out.Results != nil || out.Counts != (api.Counts{}) || e != api.OK {
		t.Errorf("%v %d", out, e)
	}
}

func TestPlaces(t *testing.T) { // P55.1: the inputs come in order, and their ends count even if they are empty
	b := api.Bytecode{Arena: 9, Inputs: []api.Place{{Offset: 0, Size: 2}, {Offset: 1, Size: 2}, {Offset: 8, Size: 0}}, Results: []api.Place{{Offset: 0, Size: 4}}}
	b.Types = []api.Array{{Elem: api.Int, Dims: []int{2}}, {Elem: api.Int, Dims: []int{2}}, {Elem: api.Bool, Dims: []int{0, 3}}, {Elem: api.Int, Dims: []int{2, 2}}}
	out, e := machine.Run(b, sample.Arrays("#[2: 1 2]", "#[2: 3 4]", "#b[0 3:]"))
	if got := sample.Text(out.Results); got != "#[2 2: 1 3 4 0] " || out.Counts != (api.Counts{Peak: 8}) || e != api.OK {
		t.Errorf("%s %v %d", got, out.Counts, e)
	}
}

func TestErrors(t *testing.T) { // P55.1
	valid := program(9, "skip")
	wrong := valid
	wrong.Regs = -1
	broken := inputs()
	broken[1].Data = []int{0, 2}
	for i, c := range []struct {
		b      api.Bytecode
		inputs []api.Array
		e      api.Errno
	}{
		{wrong, inputs(), api.ErrArg}, {valid, nil, api.ErrArg}, {valid, inputs()[:1], api.ErrArg}, {valid, append(inputs(), inputs()...), api.ErrArg}, {valid, broken, api.ErrArg}, {valid, sample.Arrays("#b[2: 1 1]", "#[2: 1 1]"), api.ErrType}, {valid, sample.Arrays("#[2: 1 1]", "#[2: 1 1]"), api.ErrShape}, {valid, sample.Arrays("#[3: 1 1 1]", "#[2: 1 1]"), api.ErrType}, {valid, sample.Arrays("#[3: 1 1 1]", "#b[1 2: 1 1]"), api.ErrShape}, {valid, sample.Arrays("#[1 3: 1 1 1]", "#b[2: 1 1]"), api.ErrShape}, {valid, append(sample.Arrays("#b[3: 1 1 1]"), broken[1]), api.ErrArg},
	} {
		out, e := machine.Run(c.b, c.inputs)
		n, f := machine.Steps(c.b, c.inputs)
		at, g := machine.Fault(c.b, c.inputs)
		if e != c.e || f != c.e || g != c.e || n != 0 || at != 0 || out.Results != nil || out.Counts != (api.Counts{}) {
			t.Errorf("%d: %d %d %d", i, e, f, g)
		}
	}
}

func TestFaults(t *testing.T) { // P55.1
	for i, c := range []struct {
		text string
		at   int
	}{
		{"const r1 1099511627776; const r2 1; skip; add r3 r1 r2 1", 3}, {"const r1 -1099511627776; const r2 1; add r3 r1 r2 -1", 2}, {"const r1 1099511627776; add r3 r0 r1 2", 1}, {"const r1 2; prim not r1 r1", 1}, {"const r1 2147483648; prim neg r1 r1", 1}, {"const r1 -1; load r2 r1", 1}, {"const r1 9; load r2 r1", 1}, {"const r1 9; store r1 r2", 1}, {"const r1 -1; store r1 r2", 1}, {"const r1 2147483648; store r0 r1", 1}, {"const r1 -2147483649; store r0 r1", 1}, {"const r1 9; const r2 1; for r3 r0 r1 1; if r3; load r4 r3; load r4 r1; end; end", 5}, {"const r1 -9; if r1; else; load r1 r1; end", 3},
	} {
		b := program(9, c.text)
		_, e := machine.Run(b, inputs())
		n, f := machine.Steps(b, inputs())
		if at, g := machine.Fault(b, inputs()); at != c.at || e != api.ErrCode || f != api.ErrCode || g != api.ErrCode || n != 0 {
			t.Errorf("%d: %d %d %d %d", i, at, e, f, g)
		}
	}
}

func TestLimit(t *testing.T) { // P55.1
	// 2 steps, and 2 for each time when the body is carried out.
	for _, c := range []struct {
		text string
		e    api.Errno
	}{
		{"const r1 99999; for r2 r0 r1 1; skip; end", api.OK}, {"const r1 100000; for r2 r0 r1 1; skip; end", api.ErrLimit}, {"const r1 199998; for r2 r0 r1 1; end", api.OK}, {"const r1 199999; for r2 r0 r1 1; end", api.ErrLimit}, {"const r1 1099511627776; for r2 r0 r1 1; end", api.ErrLimit}, {"const r1 1099511627776; for r2 r0 r1 1; load r3 r2; end", api.ErrCode}, {"const r1 199997; for r2 r0 r1 1; end; load r3 r1", api.ErrCode}, {"const r1 199998; for r2 r0 r1 1; end; load r3 r1", api.ErrLimit},
		{"const r1 1099511627776; for r2 r0 r1 1048576; if r2; end; end", api.ErrLimit},
	} {
		b := program(9, c.text)
		out, e := machine.Run(b, inputs())
		n, f := machine.Steps(b, inputs())
		if e != c.e || f != c.e || (e != api.OK) != (out.Results == nil) || e == api.OK && n != machine.MaxSteps {
			t.Errorf("%s: %d %d, %d", c.text, e, f, n)
		}
		if at, e := machine.Fault(b, inputs()); e != c.e || e == api.ErrLimit && at != 0 {
			t.Errorf("%s: %d %d", c.text, at, e)
		}
	}
}

// randomInputs returns random inputs of a program of layer 52.
func randomInputs(d *sample.Dice) []api.Array {
	l := sample.Arrays("#[3: 0 0 0]", "#b[2: 0 0]")
	for i := range l[0].Data {
		l[0].Data[i] = sample.Pick(d, 0, 1, -1, d.N(14)-1, element.Greatest)
	}
	l[1].Data[d.N(2)] = d.N(2)
	return l
}

// words returns the words at the beginning of a run.
func words(b api.Bytecode, inputs []api.Array) []int {
	arena := make([]int, b.Arena)
	for i, p := range b.Inputs {
		copy(arena[p.Offset:], inputs[i].Data)
	}
	return arena
}

func equal(a, b machine.Outcome) bool {
	return slices.EqualFunc(a.Results, b.Results, array.Equal) && a.Counts == b.Counts && slices.Equal(a.Violated, b.Violated)
}

func TestRandom(t *testing.T) { // P55.1, P55.2, P55.3, P55.4, P55.5
	d := sample.NewDice(28)
	ran, failed := 0, 0
	for range 6000 {
		b := sample.Bytecode(d)
		in := randomInputs(d)
		out, e := machine.Run(b, in)
		steps, _ := machine.Steps(b, in)
		m := sample.NewMachine(b, words(b, in))
		m.Most = 1 << 20
		if ok := m.Run(); ok != (e == api.OK) && e != api.ErrLimit {
			t.Fatalf("%v: %d", b.Ops, e)
		}
		if _, f := verify.Verify(b); e == api.ErrCode && f == api.OK {
			t.Fatalf("%v fails", b.Ops)
		}
		if e != api.OK {
			failed++
			continue
		}
		ran++
		peak := max(b.Inputs[0].Offset+3, b.Inputs[1].Offset+2)
		for _, at := range m.Stored {
			peak = max(peak, at+1)
		}
		want := m.Counts
		want.Peak = peak
		if out.Counts != want || !slices.Equal(out.Violated, slices.Sorted(maps.Keys(m.Violated))) {
			t.Fatalf("%v: %v, not %v", b.Ops, out, want)
		}
		for i, p := range b.Results {
			for j, n := range out.Results[i].Data {
				if w := m.Arena[p.Offset+j]; n != w && (i == 0 || (n != 0) != (w != 0)) || i == 1 && n&^1 != 0 {
					t.Fatalf("%v: %v", b.Ops, out)
				}
			}
		}
		if out.Counts.Reads+out.Counts.Writes+out.Counts.Ops > steps || out.Counts.Peak > b.Arena {
			t.Fatalf("%v: %v in %d steps", b.Ops, out.Counts, steps)
		}
		longer := b
		longer.Arena += 1 + d.N(20)
		if again, e := machine.Run(longer, in); !equal(out, again) || e != api.OK {
			t.Fatalf("%v: a longer arena", b.Ops)
		}
		further := b
		further.Ops = append(slices.Clone(b.Ops), sample.MachineOp(bytecode.Const, d.N(7), d.N(9)), sample.MachineOp(bytecode.Max, d.N(7), d.N(7), d.N(7)))
		if again, e := machine.Run(further, in); !equal(out, again) || e != api.OK {
			t.Fatalf("%v: further instructions", b.Ops)
		}
		further.Ops = append(slices.Clone(b.Ops), sample.Bytecode(d).Ops...)
		if again, e := machine.Run(further, in); e == api.OK && (again.Counts.Reads < want.Reads || again.Counts.Writes < want.Writes || again.Counts.Ops < want.Ops) {
			t.Fatalf("%v: fewer", b.Ops)
		}
	}
	if ran < 1500 || failed < 500 {
		t.Errorf("%d, %d failed", ran, failed)
	}
}

func TestArguments(t *testing.T) { // inputs are neither changed nor kept
	b := program(9, "const r1 -8; store r0 r1")
	b.Inputs[1].Offset = 2
	in := inputs()
	out, _ := machine.Run(b, in)
	if got := sample.Text(in) + sample.Text(out.Results); got != "#[3: 5 6 7] #b[2: 0 1] #[3: -8 6 0] #b[2: 0 0] " {
		t.Errorf("%s", got)
	}
	out.Results[0].Dims[0] = 77
	if b.Types[2].Dims[0] != 3 {
		t.Error("the result shares memory")
	}
}
