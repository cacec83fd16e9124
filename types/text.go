package types

import (
	"strings"

	"framewise/api"
	"framewise/linear"
	"framewise/shape"
)

// The parts of texts.
const (
	comma = ", "
	arrow = ") -> "
	where = " where "
)

// Print returns the text of a type.
func Print(t api.Type) (string, api.Errno) {
	if !Valid(t) {
		return "", api.ErrArg
	}
	return text(t), api.OK
}

// PrintScheme returns the text of a scheme.
func PrintScheme(s api.Scheme) (string, api.Errno) {
	if !ValidScheme(s) {
		return "", api.ErrArg
	}
	out := "(" + joined(s.Params, text) + arrow + text(s.Result)
	if len(s.Where) > 0 {
		out += where + joined(s.Where, linear.Print)
	}
	return out, api.OK
}

// Parse returns the type with a text.
func Parse(s string) (api.Type, api.Errno) {
	t, rest := typeAhead(s)
	if text, e := Print(t); e != api.OK || rest != "" || text != s {
		return api.Type{}, api.ErrSyntax
	}
	return t, api.OK
}

// ParseScheme returns the scheme with a text.
func ParseScheme(s string) (api.Scheme, api.Errno) {
	var out api.Scheme
	params, rest, _ := strings.Cut(strings.TrimPrefix(s, "("), arrow)
	for params != "" && len(out.Params) <= MaxParams {
		var t api.Type
		t, params = typeAhead(params)
		params = strings.TrimPrefix(params, comma)
		out.Params = append(out.Params, t)
	}
	result, conditions, _ := strings.Cut(rest, where)
	out.Result, _ = typeAhead(result)
	for conditions != "" && len(out.Where) <= MaxWhere {
		var condition string
		condition, conditions, _ = strings.Cut(conditions, comma)
		l, _ := linear.Parse(condition)
		out.Where = append(out.Where, l)
	}
	// Whatever was accepted loosely is not the text of what was read.
	if text, e := PrintScheme(out); e != api.OK || text != s {
		return api.Scheme{}, api.ErrSyntax
	}
	return out, api.OK
}

// text returns the text of a valid type.
func text(t api.Type) string {
	if shape.Equal(t.Shape, api.Shape{}) {
		return t.Elem
	}
	s, _ := shape.Print(t.Shape)
	return s + t.Elem
}

func joined[T any](l []T, text func(T) string) string {
	var parts []string
	for _, v := range l {
		parts = append(parts, text(v))
	}
	return strings.Join(parts, comma)
}

// typeAhead reads a type from the beginning of a string, up to a comma behind its shape, and returns it and the rest.
func typeAhead(s string) (api.Type, string) {
	end := 0
	if strings.HasPrefix(s, "[") {
		end = strings.Index(s, "]") + 1
	}
	sh, _ := shape.Parse(s[:end])
	elem, rest := s[end:], ""
	if i := strings.Index(elem, comma); i >= 0 {
		elem, rest = elem[:i], elem[i:]
	}
	return api.Type{Elem: elem, Shape: sh}, rest
}
