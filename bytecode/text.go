package bytecode

import (
	"slices"
	"strconv"
	"strings"

	"framewise/api"
	"framewise/array"
	"framewise/wire"
)

// register begins the text of a register.
const register = "r"

// Print returns the text of instructions.
func Print(ops []api.Op) (string, api.Errno) {
	var lines []string
	for _, x := range ops {
		if !Right(x, MaxRegs) {
			return "", api.ErrCode
		}
		lines = append(lines, line(x), "\n")
	}
	if len(ops) > MaxOps {
		return "", api.ErrLimit
	}
	return strings.Join(lines, ""), api.OK
}

// line returns the text of an instruction.
func line(x api.Op) string {
	words := []string{forms[x.Code].name}
	if x.Code == Prim {
		words = append(words, x.Prim)
	}
	row := kinds(x)
	for i, n := range operands(x) {
		switch row[i] {
		case unused:
		case changed, read:
			words = append(words, register+strconv.Itoa(n))
		default:
			words = append(words, strconv.Itoa(n))
		}
	}
	return strings.Join(words, " ")
}

// fault is the error at a line of a text.
type fault struct {
	line int
	e    api.Errno
}

// Parse returns the instructions with a text.
func Parse(s string) (ops []api.Op, line int, e api.Errno) {
	defer func() {
		if f, ok := recover().(fault); ok {
			ops, line, e = nil, f.line, f.e
		}
	}()
	for at := 0; s != ""; at++ {
		text, rest, isWhole := strings.Cut(s, "\n")
		if at == MaxOps {
			panic(fault{at, api.ErrLimit})
		}
		x, isRight := instruction(text)
		if !isWhole || !isRight {
			panic(fault{at, api.ErrSyntax})
		}
		ops = append(ops, x)
		s = rest
	}
	return ops, 0, api.OK
}

// instruction returns the instruction with a text.
func instruction(text string) (api.Op, bool) {
	var x api.Op
	words := strings.Split(text, " ")
	for code := Const; code <= Skip; code++ {
		if forms[code].name == words[0] {
			x.Code = code
		}
	}
	words = words[1:]
	if x.Code == Prim && len(words) > 0 {
		x.Prim, words = words[0], words[1:]
	}
	row := kinds(x)
	for i, n := range []*int{&x.A, &x.B, &x.C, &x.D} {
		if row[i] == unused || len(words) == 0 {
			break
		}
		word := words[0]
		if row[i] == changed || row[i] == read {
			word = strings.TrimPrefix(word, register)
		}
		// What is no number, or another one, does not give the same text.
		*n, _ = strconv.Atoi(word)
		words = words[1:]
	}
	return x, Right(x, MaxRegs) && line(x) == text
}

// Encode returns the encoding of a valid program.
func Encode(b api.Bytecode) ([]byte, api.Errno) {
	if !Valid(b) {
		return nil, api.ErrCode
	}
	text, _ := Print(b.Ops)
	out := wire.Int(wire.Int(nil, b.Regs), b.Arena)
	out = wire.Text(out, text)
	out = wire.Int(wire.Int(out, len(b.Inputs)), len(b.Results))
	for _, l := range [][]api.Place{b.Inputs, b.Results} {
		for _, p := range l {
			out = wire.Int(out, p.Offset)
		}
	}
	for _, t := range b.Types {
		out = wire.Ints(wire.Text(out, t.Elem), t.Dims)
	}
	return out, api.OK
}

// Decode returns the valid program with an encoding.
func Decode(bytes []byte) (api.Bytecode, api.Errno) {
	s := &wire.Source{Rest: bytes}
	most := len(bytes)
	b := api.Bytecode{Regs: s.Int(0, MaxRegs), Arena: s.Int(0, MaxArena)}
	ops, _, e := Parse(s.Text(most))
	b.Ops = ops
	inputs := s.Int(0, most)
	results := s.Int(0, most)
	var places []api.Place
	for i := 0; i < inputs+results && s.Err == api.OK; i++ {
		places = append(places, api.Place{Offset: s.Int(0, MaxArena)})
	}
	for i := 0; i < len(places) && s.Err == api.OK; i++ {
		t := api.Array{Elem: s.Text(len(api.Bool)), Dims: s.Ints(api.MaxRank, 0, api.MaxDim)}
		places[i].Size, _ = array.Size(t.Dims)
		b.Types = append(b.Types, t)
	}
	if s.End() != api.OK || e != api.OK {
		return api.Bytecode{}, api.ErrForm
	}
	b.Inputs, b.Results = slices.Clone(places[:inputs]), slices.Clone(places[inputs:])
	if !Valid(b) {
		return api.Bytecode{}, api.ErrForm
	}
	return b, api.OK
}
