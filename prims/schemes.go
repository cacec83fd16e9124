package prims

import (
	"framewise/api"
	"framewise/element"
)

// The variables of the schemes.
const (
	elemVar = "A"
	sizeVar = "k"
	dimVar  = "n"
	dimVar2 = "m"
)

// isSized reports whether a primitive has the size variable.
func isSized(name string) bool {
	switch name {
	case "iota", "fill", "take", "drop", "windows":
		return true
	}
	return false
}

// scheme returns the scheme of a primitive; for chunk, with any number.
func scheme(name string, num int) (api.Scheme, bool) {
	if params, result, ok := element.Types(name); ok {
		s := api.Scheme{Result: typ(result)}
		for _, p := range params {
			s.Params = append(s.Params, typ(p))
		}
		return s, true
	}
	scalar, list := typ(elemVar), func() api.Type { return typ(elemVar, sum(dimVar)) }
	switch name {
	case "iota":
		return function(typ(api.Int, sum(sizeVar)))
	case "fill":
		return function(typ(elemVar, sum(sizeVar)), scalar)
	case "take":
		return function(typ(elemVar, sum(sizeVar)), list())
	case "drop":
		return function(typ(elemVar, rest(0)), list())
	case "reverse":
		return function(list(), list())
	case "append":
		return function(typ(elemVar, sum(dimVar2, dimVar)), list(), typ(elemVar, sum(dimVar2)))
	case "transpose":
		return function(typ(elemVar, sum(dimVar2), sum(dimVar)), typ(elemVar, sum(dimVar), sum(dimVar2)))
	case "diagonal":
		return function(list(), typ(elemVar, sum(dimVar), sum(dimVar)))
	case "windows":
		return function(typ(elemVar, rest(1), sum(sizeVar)), list())
	case "chunk":
		rows := api.Linear{Terms: []api.Coef{{Var: dimVar, C: num}}}
		return function(typ(elemVar, sum(dimVar), api.Linear{Const: num}), typ(elemVar, rows))
	case "index":
		return function(scalar, list(), typ(api.Int))
	case "update":
		return function(list(), list(), typ(api.Int), scalar)
	}
	return api.Scheme{}, false
}

// function returns a scheme, with the conditions that its size has: to be at least 0, and at most the length of a list.
func function(result api.Type, params ...api.Type) (api.Scheme, bool) {
	s := api.Scheme{Params: params, Result: result}
	for _, d := range result.Shape.Dims {
		for _, t := range d.Terms {
			if t.Var != sizeVar || len(s.Where) > 0 {
				continue
			}
			s.Where = append(s.Where, sum(sizeVar))
			if len(params) > 0 && len(params[0].Shape.Dims) > 0 {
				s.Where = append(s.Where, rest(0))
			}
		}
	}
	return s, true
}

func typ(elem string, dims ...api.Linear) api.Type {
	return api.Type{Elem: elem, Shape: api.Shape{Dims: dims}}
}

// sum returns the sum of variables in ascending order.
func sum(vars ...string) api.Linear {
	var l api.Linear
	for _, v := range vars {
		l.Terms = append(l.Terms, api.Coef{Var: v, C: 1})
	}
	return l
}

// rest returns how much longer a list is than the size, plus n.
func rest(n int) api.Linear {
	return api.Linear{Const: n, Terms: []api.Coef{{Var: sizeVar, C: -1}, {Var: dimVar, C: 1}}}
}
