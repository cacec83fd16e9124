package binding_test

import (
	"testing"

	"framewise/api"
	"framewise/binding"
	"framewise/linear"
	"framewise/types"
)

func TestTable(t *testing.T) {
	l := []api.Bind{
		{Kind: api.ElemVar, Var: "A", Elem: "int"},
		{Kind: api.DimVar, Var: "n", Dim: linear.Of(3)},
		{Kind: api.RowVar, Var: "n", Row: api.Shape{Dims: []api.Linear{linear.Var("m")}}},
		{Kind: api.DimVar, Var: "k", Dim: linear.Of(api.MaxCoef)},
	}
	table := binding.New(l)
	x, _ := types.Parse("[n.., n, m]A")
	want, _ := types.Subst(x, l)
	if got, e := table.Type(x); !types.Equal(got, want) || e != api.OK {
		t.Errorf("%v", got)
	}
	if _, e := table.Linears([]api.Linear{linear.Var("n"), {Terms: []api.Coef{{Var: "k", C: 2}}}}); e != api.ErrLimit {
		t.Errorf("%d", e)
	}
	binding.Sort(l)
	if l[0].Var != "k" || l[1].Var != "n" || l[2].Kind != api.RowVar || l[3].Kind != api.ElemVar {
		t.Errorf("%v", l)
	}
}
