package signature

import (
	"iter"
	"slices"

	"framewise/api"
	"framewise/types"
)

// The kinds of changes.
const (
	Added = 1 + iota
	Removed
	Widened
	Changed
)

// Change is a change of an entry.
type Change struct {
	Name string
	Kind int
}

// Diff returns the changes from an interface to another one.
func Diff(before, after Interface) ([]Change, api.Errno) {
	if !Valid(before) || !Valid(after) {
		return nil, api.ErrArg
	}
	var changes []Change
	for a, b := range merged(before, after) {
		switch {
		case a == nil:
			changes = append(changes, Change{b.Name, Added})
		case b == nil:
			changes = append(changes, Change{a.Name, Removed})
		case types.EqualScheme(a.Scheme, b.Scheme):
		case isInstance(b.Scheme, a.Scheme):
			changes = append(changes, Change{a.Name, Widened})
		default:
			changes = append(changes, Change{a.Name, Changed})
		}
	}
	return changes, api.OK
}

// isInstance reports whether a scheme is an instance of a general one.
func isInstance(general, special api.Scheme) bool {
	_, e := types.Instance(general, special)
	return e == api.OK
}

// merged yields, for each name of two valid interfaces in ascending order, its entries: nil in the one that has none.
func merged(before, after Interface) iter.Seq2[*Entry, *Entry] {
	return func(yield func(a, b *Entry) bool) {
		old, next := before.Entries, after.Entries
		for len(old) > 0 || len(next) > 0 {
			var a, b *Entry
			isOld := len(next) == 0 || len(old) > 0 && old[0].Name <= next[0].Name
			isNext := len(old) == 0 || len(next) > 0 && next[0].Name <= old[0].Name
			if isOld {
				a, old = &old[0], old[1:]
			}
			if isNext {
				b, next = &next[0], next[1:]
			}
			if !yield(a, b) {
				return
			}
		}
	}
}

// Compatible reports whether the second interface is compatible with the first one.
func Compatible(before, after Interface) bool {
	changes, e := Diff(before, after)
	return e == api.OK && before.Module == after.Module && !slices.ContainsFunc(changes, func(c Change) bool { return c.Kind != Added && c.Kind != Widened })
}
