// Package source reads values that have several parts from sources of layer 1 (wire).
package source

import (
	"math"

	"framewise/api"
	"framewise/wire"
)

// Take reads a value by take. If this leaves an error, the source keeps its bytes, and the value is the zero one.
func Take[T any](s *wire.Source, take func(*wire.Source) T) T {
	var none T
	if s == nil || s.Err != api.OK {
		return none
	}
	t := *s
	v := take(&t)
	if t.Err != api.OK {
		s.Err = t.Err
		return none
	}
	*s = t
	return v
}

// Length reads a length: the error is ErrLimit if it is negative or too great.
func Length(s *wire.Source, most int) int {
	return Take(s, func(t *wire.Source) int {
		n := t.Int(math.MinInt, math.MaxInt)
		if t.Err == api.OK && (n < 0 || n > most) {
			t.Err = api.ErrLimit
		}
		return n
	})
}
