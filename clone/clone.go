// Package clone copies values of package api such that the copies share no memory with them.
package clone

import (
	"slices"

	"framewise/api"
)

// Each copies all elements of a list.
func Each[T any](l []T, copy func(T) T) []T {
	if l == nil {
		return nil
	}
	out := make([]T, len(l))
	for i, v := range l {
		out[i] = copy(v)
	}
	return out
}

// Linear copies an expression.
func Linear(l api.Linear) api.Linear {
	return api.Linear{Const: l.Const, Terms: slices.Clone(l.Terms)}
}

// Linears copies expressions.
func Linears(l []api.Linear) []api.Linear { return Each(l, Linear) }
