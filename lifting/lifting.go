// Package lifting applies functions of cells to arrays over a frame.
package lifting

import (
	"framewise/api"
	"framewise/cells"
)

// Axes returns, for each argument that is framed, all axes of a frame of n dimensions, and none for the others.
func Axes(framed []bool, n int) [][]int {
	l := make([][]int, len(framed))
	for i, isFramed := range framed {
		for axis := range n {
			if isFramed {
				l[i] = append(l[i], axis)
			}
		}
	}
	return l
}

// Each returns what f returns for the cells of arrays, for each index of a frame that some of them have, in order.
func Each(frame []int, framed []bool, ranks []int, args []api.Array, f func(at []api.Array) api.Array) ([]api.Array, api.Errno) {
	indices, e := cells.Indices(frame)
	if e != api.OK {
		return nil, e
	}
	var results []api.Array
	for _, index := range indices {
		var at []api.Array
		for i, a := range args {
			own := index
			if !framed[i] {
				own = nil
			}
			c, e := cells.Cell(a, ranks[i], own)
			if e != api.OK {
				return nil, e
			}
			at = append(at, c)
		}
		results = append(results, f(at))
	}
	return results, api.OK
}
