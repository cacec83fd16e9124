package constraint

import (
	"slices"

	"framewise/agree"
	"framewise/api"
	"framewise/binding"
	"framewise/clone"
	"framewise/decide"
	"framewise/fresh"
	"framewise/linear"
	"framewise/shape"
	"framewise/unify"
)

// What is decided of an argument.
const (
	open = iota
	isFramed
	notFramed
)

// decision is what is known of an application.
type decision struct {
	args     []int
	frame    api.Shape
	hasFrame bool
	settled  bool
}

// state is what a branch of the search changes.
type state struct {
	pairs     []unify.Pair
	decisions []decision
	rows      int
}

// search has the constraints, and among them the applications; ended says that the whole search has come to its end.
type search struct {
	list     []api.Constraint
	apps     []api.Constraint
	next     int
	branches int
	ended    bool
	solution api.Solution
	after    int
}

func newSearch(l []api.Constraint, next int) *search {
	s := &search{list: l, next: next}
	for _, c := range l {
		if c.Kind == api.ConsAgree {
			s.apps = append(s.apps, c)
		}
	}
	return s
}

func (s *search) solve() (api.Solution, int, api.Errno) {
	var st state
	for _, c := range s.list {
		switch c.Kind {
		case api.ConsSame:
			st.pairs = append(st.pairs, unify.Pair{A: c.A, B: c.B})
		case api.ConsAgree:
			st.decisions = append(st.decisions, decision{args: make([]int, len(c.Args))})
		}
	}
	var run func(st state) api.Errno
	run = func(st state) api.Errno {
		for {
			at, arg, e := s.step(&st)
			if e != api.OK || at < 0 {
				return e
			}
			if arg >= 0 {
				return s.choose(st, at, arg, run)
			}
		}
	}
	if e := run(st); e != api.OK {
		return api.Solution{}, 0, e
	}
	s.solution.Forced = s.branches == 0
	return s.solution, s.after, api.OK
}

// step settles an application, and returns its index, and -1; or an index and an argument for which there is a choice; or -1, if the search is at its end.
func (s *search) step(st *state) (at, arg int, e api.Errno) {
	binds, after, e := unify.Unify(st.pairs, s.next+st.rows)
	if e != api.OK {
		return 0, 0, e
	}
	first := slices.IndexFunc(st.decisions, func(d decision) bool { return !d.settled })
	if first < 0 {
		s.after = after
		return -1, -1, s.finish(st, binds)
	}
	_, rows, _ := unify.Equations(st.pairs)
	table := binding.New(rows)
	args := make([][]api.Type, len(s.apps))
	known := -1
	for i, c := range s.apps {
		if st.decisions[i].settled {
			continue
		}
		if args[i], e = table.Types(c.Args); e != api.OK {
			return 0, 0, s.end()
		}
		if known < 0 && !slices.ContainsFunc(args[i], func(t api.Type) bool { return t.Shape.Row != "" }) {
			known = i
		}
	}
	if known >= 0 {
		first = known
	}
	arg, e = s.decide(st, first, args[first])
	return first, arg, e
}

// end ends the whole search.
func (s *search) end() api.Errno {
	s.ended = true
	return api.ErrLimit
}

// decide decides the arguments of known rank of an application, and settles it if there is no choice; otherwise it returns the argument to choose for.
func (s *search) decide(st *state, at int, args []api.Type) (arg int, e api.Errno) {
	d := &st.decisions[at]
	d.args = slices.Clone(d.args)
	left, count := -1, 0
	for i, t := range args {
		n := len(t.Shape.Dims) - len(s.apps[at].Cells[i].Shape.Dims)
		switch {
		case d.args[i] != open:
		case t.Shape.Row != "":
			if count++; left < 0 {
				left = i
			}
		case n < 0:
			return 0, api.ErrRank
		case n > 0:
			d.args[i] = isFramed
		default:
			d.args[i] = notFramed
		}
	}
	if i := slices.Index(d.args, isFramed); i >= 0 && !d.hasFrame {
		d.frame, _, _ = shape.Split(args[i].Shape, len(s.apps[at].Cells[i].Shape.Dims))
		d.hasFrame = true
	}
	if count == 1 && !d.hasFrame {
		s.take(st, at, left)
		left = -1
	}
	if left >= 0 {
		return left, api.OK
	}
	return -1, s.settle(st, at)
}

// take lets an argument be framed, by a fresh row if there is no frame yet.
func (s *search) take(st *state, at, arg int) {
	d := &st.decisions[at]
	if !d.hasFrame {
		d.frame, d.hasFrame = api.Shape{Row: fresh.Name(s.next + st.rows)}, true
		st.rows++
	}
	d.args[arg] = isFramed
}

// settle adds the pairs of an application all of whose arguments are decided.
func (s *search) settle(st *state, at int) api.Errno {
	d := &st.decisions[at]
	d.settled = true
	pairs, e := agree.Pairs(s.apps[at], d.frame, framed(d.args))
	st.pairs = append(st.pairs, pairs...)
	return e
}

func framed(args []int) []bool {
	var l []bool
	for _, a := range args {
		l = append(l, a == isFramed)
	}
	return l
}

// choose lets an argument be framed, and if that fails, not.
func (s *search) choose(st state, at, arg int, run func(state) api.Errno) api.Errno {
	var errors [2]api.Errno
	for i := range errors {
		if s.branches++; s.branches > MaxChoices {
			return s.end()
		}
		branch := state{slices.Clone(st.pairs), slices.Clone(st.decisions), st.rows}
		if errors[i] = s.assume(&branch, at, arg, i == 0); errors[i] == api.OK {
			errors[i] = run(branch)
		}
		if errors[i] == api.OK || s.ended {
			return errors[i]
		}
	}
	if errors[1] == api.ErrLimit {
		return api.ErrLimit
	}
	return errors[0]
}

// assume adds the pair of an argument that is framed, or not.
func (s *search) assume(st *state, at, arg int, isIn bool) api.Errno {
	d := &st.decisions[at]
	d.args = slices.Clone(d.args)
	want := s.apps[at].Cells[arg]
	if isIn {
		s.take(st, at, arg)
		var e api.Errno
		if want.Shape, e = shape.Concat(d.frame, want.Shape); e != api.OK {
			return e
		}
	} else {
		d.args[arg] = notFramed
	}
	st.pairs = append(st.pairs, unify.Pair{A: s.apps[at].Args[arg], B: want})
	return api.OK
}

// finish collects the conditions and the frames under the binds, if there is no contradiction.
func (s *search) finish(st *state, binds []api.Bind) api.Errno {
	table := binding.New(binds)
	var where []api.Linear
	for _, c := range s.list {
		c, e := under(c, table)
		if e != api.OK {
			return s.end()
		}
		where = append(where, c.L)
		for _, t := range all(c) {
			where = append(where, t.Shape.Dims...)
		}
	}
	where = slices.DeleteFunc(where, trivial)
	slices.SortFunc(where, linear.Compare)
	where = slices.CompactFunc(where, linear.Equal)
	var facts []api.Fact
	for _, l := range where {
		facts = append(facts, api.Fact{L: l})
	}
	if verdict, _, _ := decide.Decide(facts); verdict == decide.Unsat {
		return api.ErrConflict
	}
	s.solution = api.Solution{Binds: binds, Where: clone.Linears(where)}
	for _, d := range st.decisions {
		frame, e := table.Shape(d.frame)
		if e != api.OK {
			return s.end()
		}
		s.solution.Frames = append(s.solution.Frames, frame)
		s.solution.Framed = append(s.solution.Framed, framed(d.args))
	}
	return api.OK
}
