// Package fresh names the fresh variables of dimensions and rows: an underscore and a number from 1 on.
package fresh

import (
	"strconv"

	"framewise/api"
	"framewise/linear"
)

// Limit is greater than the numbers of all fresh names.
const Limit = 1000000000

// Name returns the fresh name with a number.
func Name(n int) string { return "_" + strconv.Itoa(n) }

// Number returns the number of a fresh name; 0 for other strings.
func Number(s string) int {
	if len(s) == 0 || s[0] != '_' || !linear.Name(s) {
		return 0
	}
	n, err := strconv.Atoi(s[1:])
	if err != nil {
		return 0
	}
	return n
}

// Greatest returns the greatest number of a fresh name in an expression; 0 if there is none.
func Greatest(l api.Linear) int {
	most := 0
	for _, t := range l.Terms {
		most = max(most, Number(t.Var))
	}
	return most
}
