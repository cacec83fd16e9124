package printer

import (
	"strconv"
	"strings"

	"framewise/api"
	"framewise/array"
	"framewise/linear"
	"framewise/prims"
)

// The levels of terms: let, comparisons, which do not follow each other, unary operators, and what stands alone.
const (
	letLevel        = 0
	comparisonLevel = 3
	unaryLevel      = 6
	aloneLevel      = 7
)

// text returns the text of a printable term, in parentheses if its level is less than the one that is needed.
func text(t api.Term, needed int) string {
	var b strings.Builder
	var add func(t api.Term, needed int)
	add = func(t api.Term, needed int) {
		symbol, level := operator(t)
		if level < needed {
			b.WriteByte('(')
			defer b.WriteByte(')')
		}
		switch {
		case t.Kind == api.TermLet:
			b.WriteString("let " + t.Name + " = ")
			add(t.Kids[0], letLevel)
			b.WriteString(" in ")
			add(t.Kids[1], letLevel)
		case symbol == "":
			b.WriteString(alone(t))
		case len(t.Kids) == 1:
			b.WriteString(symbol)
			operand := unaryLevel
			if k := t.Kids[0]; symbol == "-" && k.Kind == api.TermLit && k.Name == api.Int && k.Num >= 0 {
				operand = aloneLevel + 1 // in parentheses, as it would be a negative number
			}
			add(t.Kids[0], operand)
		default:
			left := level
			if level == comparisonLevel {
				left++
			}
			add(t.Kids[0], left)
			b.WriteString(" " + symbol + " ")
			add(t.Kids[1], level+1)
		}
	}
	add(t, needed)
	return b.String()
}

// operator returns the operator by which a term is written, if there is one, and the level of the term.
func operator(t api.Term) (symbol string, level int) {
	switch {
	case t.Kind == api.TermLet:
		return "", letLevel
	case t.Kind == api.TermLit && t.Num < 0:
		return "", unaryLevel
	case t.Kind != api.TermCall || len(t.Sizes) > 0 || t.Num != 0 || len(t.Ranks) > 0:
		return "", aloneLevel
	}
	symbol, isUnary, ok := prims.Symbol(t.Name)
	kids := 2
	if isUnary {
		kids = 1
	}
	if !ok || len(t.Kids) != kids {
		return "", aloneLevel
	}
	_, level, _ = prims.Operator(symbol, isUnary)
	return symbol, level
}

// alone returns the text of a term without an operator.
func alone(t api.Term) string {
	var kids []string
	for _, k := range t.Kids {
		kids = append(kids, text(k, letLevel))
	}
	switch t.Kind {
	case api.TermLit:
		if t.Name == api.Bool {
			return strconv.FormatBool(t.Num == 1)
		}
		return strconv.Itoa(t.Num)
	case api.TermCall:
		return call(t) + "(" + separate(kids...) + ")"
	case api.TermPack:
		return "[" + separate(kids...) + "]"
	case api.TermFold:
		return "fold(" + separate(append([]string{t.Name}, kids...)...) + ")"
	case api.TermScan:
		return "scan(" + separate(append([]string{t.Name}, kids...)...) + ")"
	case api.TermSize:
		return "size[" + linear.Print(t.Sizes[0]) + "]"
	case api.TermConst:
		s, _ := array.Print(t.Array)
		return s
	}
	return t.Name
}

// call returns what stands ahead of the arguments of a call.
func call(t api.Term) string {
	s := t.Name
	var sizes, ranks []string
	for _, l := range t.Sizes {
		sizes = append(sizes, linear.Print(l))
	}
	for _, r := range t.Ranks {
		ranks = append(ranks, strconv.Itoa(r))
	}
	if len(sizes) > 0 {
		s += "[" + separate(sizes...) + "]"
	}
	if t.Num != 0 {
		s += "{" + strconv.Itoa(t.Num) + "}"
	}
	if len(ranks) > 0 {
		s += "@(" + separate(ranks...) + ")"
	}
	return s
}

func separate(parts ...string) string { return strings.Join(parts, ", ") }
