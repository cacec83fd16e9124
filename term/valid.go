package term

import (
	"slices"

	"framewise/api"
	"framewise/array"
	"framewise/element"
	"framewise/lexer"
	"framewise/linear"
)

// The limits of calls: sizes, and the literal number.
const (
	maxSizes = 4
	maxNum   = 64
)

// Valid reports whether a term is valid.
func Valid(t api.Term) bool {
	n := 0
	for node := range Nodes(t) {
		if n++; n > api.MaxNodes || !validNode(node) {
			return false
		}
	}
	return Depth(t) <= api.MaxDepth
}

func validNode(t api.Term) bool {
	if t.Line < 0 || t.Line > api.MaxLine {
		return false
	}
	// Whatever a kind has is taken away; then everything has to be zero.
	rest := t
	rest.Kind, rest.Line = 0, 0
	isRight := false
	switch t.Kind {
	case api.TermVar:
		rest.Name, isRight = "", lexer.IsName(t.Name)
	case api.TermLit:
		rest.Name, rest.Num, isRight = "", 0, element.Valid(t.Name, t.Num)
	case api.TermConst:
		rest.Array, isRight = api.Array{}, array.Valid(t.Array)
	case api.TermSize:
		rest.Sizes, isRight = nil, len(t.Sizes) == 1 && validSizes(t.Sizes)
	case api.TermLet:
		rest.Name, rest.Kids, isRight = "", nil, lexer.IsName(t.Name) && len(t.Kids) == 2
	case api.TermCall:
		rest.Name, rest.Sizes, rest.Num, rest.Ranks, rest.Kids, isRight = "", nil, 0, nil, nil, validCall(t)
	case api.TermPack:
		rest.Kids, isRight = nil, len(t.Kids) >= 1 && len(t.Kids) <= MaxKids
	case api.TermFold:
		rest.Name, rest.Kids, isRight = "", nil, isFunction(t.Name) && len(t.Kids) == 2
	case api.TermScan:
		rest.Name, rest.Kids, isRight = "", nil, isFunction(t.Name) && len(t.Kids) == 1
	}
	return isRight && Equal(rest, api.Term{})
}

func validCall(t api.Term) bool {
	isWrong := func(n int) bool { return n < 0 || n > api.MaxRank }
	return isFunction(t.Name) && len(t.Sizes) <= maxSizes && validSizes(t.Sizes) && t.Num >= 0 && t.Num <= maxNum && len(t.Kids) <= MaxArgs &&
		(len(t.Ranks) == 0 || len(t.Ranks) == len(t.Kids)) && !slices.ContainsFunc(t.Ranks, isWrong)
}

func validSizes(l []api.Linear) bool {
	return !slices.ContainsFunc(l, func(s api.Linear) bool { return !linear.Valid(s) })
}

func isFunction(s string) bool { return lexer.IsName(s) || lexer.IsFull(s) }
