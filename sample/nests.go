package sample

import "framewise/api"

// Loop returns a loop with a step of 1 from the sources of its bounds.
func Loop(v, lo, hi string) api.Loop {
	return api.Loop{Var: v, Lo: Linear(lo), Hi: Linears(hi), Step: 1}
}

// Read returns a read of a value at an index.
func Read(v int, at string) api.Pull {
	return api.Pull{Op: "read", Value: v, At: Linears(at)}
}

// Number returns a pull that is a number.
func Number(n int) api.Pull { return api.Pull{Op: "const", Num: n} }

// Op returns a pull that applies a primitive.
func Op(name string, kids ...api.Pull) api.Pull { return api.Pull{Op: name, Kids: kids} }

// Value returns a pull that is the value of an expression.
func Value(s string) api.Pull { return api.Pull{Op: "linear", At: Linears(s)} }

// If returns a pull that chooses one of two by an expression.
func If(at string, a, b api.Pull) api.Pull {
	return api.Pull{Op: "if", At: Linears(at), Kids: []api.Pull{a, b}}
}

// Reduce returns a reduce with a primitive.
func Reduce(name, at, prim string, first, each api.Pull) api.Pull {
	return api.Pull{Op: "reduce", Name: name, At: Linears(at), Fun: Prim(prim), Kids: []api.Pull{first, each}}
}

// Dynamic returns a dynamic read.
func Dynamic(v int, at string, check int, kid api.Pull) api.Pull {
	return api.Pull{Op: "read", Value: v, At: Linears(at), Dynamic: true, Check: check, Kids: []api.Pull{kid}}
}

// Nest returns a random nest with the loops x, y and, if there are three, z, for the variable n and three arrays of the dimensions 8 and 8. Its points are from 0 to 3; it may write the array that it reads.
func Nest(d *Dice, loops int) api.Nest {
	x := api.Loop{Var: "x", Lo: Linear(Pick(d, "0", "0", "1", "n-2")), Hi: Linears(Pick(d, "4", "n", "n 3")), Step: max(1, d.N(5)-2)}
	y := api.Loop{Var: "y", Lo: Linear(Pick(d, "0", "0", "x", "1-x")), Hi: Linears(Pick(d, "4", "n", "x+1", "n x+2", "4-x")), Step: max(1, d.N(6)-2)}
	z := api.Loop{Var: "z", Lo: Linear(Pick(d, "0", "y")), Hi: Linears(Pick(d, "3", "n", "x+1")), Step: 1}
	n := api.Nest{Loops: []api.Loop{x, y, z}[:loops]}
	one := func() string {
		all := []string{"0", "3", "n", "x", "x", "x+1", "2x", "y", "y", "x+y", "y+2", "3-y", "z", "z+1", "y+z"}
		return Pick(d, all[:[]int{3, 7, 12, 15}[loops]]...)
	}
	index := func() string { return one() + " " + one() }
	dynamic := func() api.Pull {
		return api.Pull{Op: "read", Value: d.N(3), At: Linears(one()), Dynamic: true, Check: d.N(3), Kids: []api.Pull{Read(2, index())}}
	}
	fold := func() api.Pull {
		inner := Read(d.N(3), Pick(d, "j "+one(), one()+" j", index()))
		return api.Pull{Op: "reduce", Name: "j", At: Linears("2"), Fun: Prim("add"), Kids: []api.Pull{Number(1), inner}}
	}
	kid := func() api.Pull {
		switch d.N(6) {
		case 0:
			return dynamic()
		case 1:
			return fold()
		case 2:
			return Number(d.N(5))
		}
		return Read(d.N(3), index())
	}
	n.Write = api.Access{Value: d.N(2), At: Linears(index())}
	n.Body = Op(Pick(d, "add", "sub", "max"), kid(), kid())
	if d.N(4) == 0 {
		n.Write.At, n.Write.Dynamic, n.Index, n.Check = Linears(one()), true, kid(), d.N(3)
	}
	return n
}

// Squares returns three random arrays of the dimensions 8 and 8.
func Squares(d *Dice) []api.Array {
	var l []api.Array
	for range 3 {
		a := api.Array{Elem: api.Int, Dims: []int{8, 8}}
		for range 64 {
			a.Data = append(a.Data, d.N(10)-1)
		}
		l = append(l, a)
	}
	return l
}
