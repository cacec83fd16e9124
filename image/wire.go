package image

import (
	"framewise/api"
	"framewise/bytecode"
	"framewise/digest"
	"framewise/simplify"
	"framewise/wire"
)

// lists appends lists, each with a function that writes it.
func lists[T any](b []byte, write func([]byte, []T) []byte, l ...[]T) []byte {
	for _, x := range l {
		b = write(b, x)
	}
	return b
}

// Encode returns the bytes of an image.
func Encode(i Image) ([]byte, api.Errno) {
	if !Valid(i) {
		return nil, api.ErrArg
	}
	var vars []string
	var numbers []int
	for _, d := range i.Dims {
		vars, numbers = append(vars, d.Var), append(numbers, d.N)
	}
	code, e := bytecode.Encode(i.Code)
	if e != api.OK {
		return nil, e
	}
	b := lists(wire.Text(nil, i.Name), wire.Ints, i.Ranks)
	b = lists(b, wire.Texts, i.Elems, vars)
	b = wire.Int(lists(b, wire.Ints, numbers), i.Proof)
	b = wire.Text(b, string(code))
	for _, n := range counts(i) {
		b = wire.Int(b, n)
	}
	return digest.Seal(b), api.OK
}

// Decode returns the image with some bytes.
func Decode(b []byte) (Image, api.Errno) {
	payload, e := digest.Open(b)
	if e != api.OK {
		return Image{}, e
	}
	s := &wire.Source{Rest: payload}
	most := len(payload)
	i := Image{Name: s.Text(most), Ranks: s.Ints(maxRanks, 0, api.MaxRank), Elems: s.Texts(maxElems, len(api.Bool))}
	vars := s.Texts(api.MaxVars, maxVar)
	numbers := s.Ints(api.MaxVars, 0, api.MaxDim)
	i.Proof = s.Int(0, simplify.MaxSteps)
	code := []byte(s.Text(most))
	for _, n := range []*int{&i.Counts.Reads, &i.Counts.Writes, &i.Counts.Ops, &i.Counts.Peak} {
		*n = s.Int(0, maxCount)
	}
	if s.End() != api.OK || len(vars) != len(numbers) {
		return Image{}, api.ErrForm
	}
	for k, v := range vars {
		i.Dims = append(i.Dims, api.Value{Var: v, N: numbers[k]})
	}
	if i.Code, e = bytecode.Decode(code); e != api.OK || !Valid(i) {
		return Image{}, api.ErrForm
	}
	return i, api.OK
}
