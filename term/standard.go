package term

import (
	"slices"
	"strconv"

	"framewise/api"
	"framewise/clone"
)

// renaming has the names that are free, the number of the next standard name, and the new names of those that are bound.
type renaming struct {
	free  []string
	next  int
	bound map[string]string
}

// Standard returns the term with standard names of its lets.
func Standard(t api.Term) api.Term {
	r := renaming{free: Free(t), bound: map[string]string{}}
	t = clone.Term(t)
	r.rename(&t)
	return t
}

func (r *renaming) rename(t *api.Term) {
	if by, ok := r.bound[t.Name]; ok && t.Kind == api.TermVar {
		t.Name = by
	}
	if !isBinding(*t) {
		for i := range t.Kids {
			r.rename(&t.Kids[i])
		}
		return
	}
	old := t.Name
	t.Name = r.fresh()
	r.rename(&t.Kids[0])
	outer, ok := r.bound[old]
	r.bound[old] = t.Name
	r.rename(&t.Kids[1])
	if delete(r.bound, old); ok {
		r.bound[old] = outer
	}
}

// fresh returns the next standard name that is not free.
func (r *renaming) fresh() string {
	for {
		r.next++
		name := "v" + strconv.Itoa(r.next)
		if _, isFree := slices.BinarySearch(r.free, name); !isFree {
			return name
		}
	}
}
