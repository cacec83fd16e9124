package unify

import (
	"slices"

	"framewise/api"
	"framewise/binding"
	"framewise/clone"
	"framewise/shape"
)

// state has the binds of elements and rows so far, of which no one has a variable that is bound, and the pairs of dimensions.
type state struct {
	elems map[string]string
	rows  map[string]api.Shape
	equal [][2]api.Linear
}

// pair makes the types of a pair equal, apart from dimensions.
func (s *state) pair(p Pair) api.Errno {
	limit := false
	follow := func(x api.Shape) api.Shape {
		front, ok := s.rows[x.Row]
		if !ok {
			front = api.Shape{Row: x.Row}
		}
		x = api.Shape{Row: front.Row, Dims: slices.Concat(front.Dims, x.Dims)}
		limit = limit || len(x.Dims) > api.MaxRank
		return x
	}
	a, b := follow(p.A.Shape), follow(p.B.Shape)
	switch {
	case limit:
		return api.ErrLimit
	case !s.elements(s.elem(p.A.Elem), s.elem(p.B.Elem)):
		return api.ErrType
	}
	return s.shapes(a, b)
}

// elem returns what an element type stands for.
func (s *state) elem(x string) string {
	if by, ok := s.elems[x]; ok {
		return by
	}
	return x
}

func (s *state) elements(a, b string) bool {
	isA, isB := shape.ElemVar(a), shape.ElemVar(b)
	switch {
	case a == b:
		return true
	case isA && (!isB || a > b):
		s.bindElem(a, b)
	case isB:
		s.bindElem(b, a)
	default:
		return false
	}
	return true
}

func (s *state) bindElem(v, by string) {
	for w, old := range s.elems {
		if old == v {
			s.elems[w] = by
		}
	}
	s.elems[v] = by
}

// shapes pairs the dimensions from behind, and binds the row that takes what is left over.
func (s *state) shapes(a, b api.Shape) api.Errno {
	m, n := len(a.Dims), len(b.Dims)
	for m > 0 && n > 0 {
		m, n = m-1, n-1
		s.equal = append(s.equal, [2]api.Linear{a.Dims[m], b.Dims[n]})
	}
	a.Dims, b.Dims = a.Dims[:m], b.Dims[:n]
	switch {
	case shape.Equal(a, b):
		return api.OK
	case a.Row == b.Row:
		return api.ErrRank
	case n > 0 || m == 0 && (a.Row > b.Row):
		return s.bindRow(a.Row, b)
	}
	return s.bindRow(b.Row, a)
}

// bindRow binds a row, if there is one, to a shape with another row.
func (s *state) bindRow(v string, by api.Shape) api.Errno {
	if v == "" {
		return api.ErrRank
	}
	for w, old := range s.rows {
		if old.Row != v {
			continue
		}
		if len(by.Dims)+len(old.Dims) > api.MaxRank {
			return api.ErrLimit
		}
		s.rows[w] = api.Shape{Row: by.Row, Dims: slices.Concat(by.Dims, old.Dims)}
	}
	s.rows[v] = by
	return api.OK
}

// binds returns the binds, sorted, in new memory.
func (s *state) binds() []api.Bind {
	var l []api.Bind
	for v, by := range s.rows {
		l = append(l, api.Bind{Kind: api.RowVar, Var: v, Row: clone.Shape(by)})
	}
	for v, by := range s.elems {
		l = append(l, api.Bind{Kind: api.ElemVar, Var: v, Elem: by})
	}
	binding.Sort(l)
	return l
}
