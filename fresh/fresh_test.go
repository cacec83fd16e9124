package fresh_test

import (
	"testing"

	"framewise/api"
	"framewise/fresh"
	"framewise/linear"
)

func TestNumber(t *testing.T) {
	for s, want := range map[string]int{"_1": 1, "_999999999": 999999999, "": 0, "_": 0, "_0": 0, "_01": 0, "_1000000000": 0, "n1": 0, "_1a": 0} {
		if fresh.Number(s) != want {
			t.Errorf("%q: %d", s, fresh.Number(s))
		}
	}
	if fresh.Name(17) != "_17" {
		t.Error("Name")
	}
	l, _ := linear.Parse("_2+_10+n")
	if fresh.Greatest(l) != 10 || fresh.Greatest(api.Linear{Const: 3}) != 0 {
		t.Error("Greatest")
	}
}
