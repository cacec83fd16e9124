package whole

import (
	"fmt"
	"math/rand"
	"slices"
	"strings"
	"testing"

	"framewise/api"
	"framewise/array"
	"framewise/bounds"
	"framewise/build"
	"framewise/elaborate"
	"framewise/exec"
	"framewise/printer"
	"framewise/shell"
	"framewise/types"
)

// printed returns what the console prints for a run.
func printed(out api.Array, violated []int) []string {
	s, _ := array.Print(out)
	lines := []string{s}
	if len(violated) > 0 {
		lines = append(lines, strings.Trim(fmt.Sprint("checks ", violated), "]"))
		lines[1] = strings.Replace(lines[1], "[", "", 1)
	}
	return lines
}

func TestConsole(t *testing.T) { // W11
	r := rand.New(rand.NewSource(12))
	ran, called := 0, 0
	for _, text := range texts(12, 120) {
		s, _ := shell.Exec(shell.State{}, "put m "+strings.ReplaceAll(text, "\n", ";"))
		p, e := build.Program(s.Space)
		l, _, f := elaborate.All(p)
		bounded, g := bounds.Bound(l)
		if e != api.OK || f != api.OK || g != api.OK {
			t.Fatalf("%s: %d %d %d", text, e, f, g)
		}
		for _, d := range bounded {
			in, ok := inputs(r, d.Scheme)
			if !ok {
				continue
			}
			var arrays []string
			for _, a := range in {
				s, _ := array.Print(a)
				arrays = append(arrays, s)
			}
			what := strings.TrimSuffix(d.Name+" "+strings.Join(arrays, " / "), " ")
			out, violated, e := exec.Run(bounded, d.Name, in)
			want := printed(out, violated)
			if e != api.OK {
				want = []string{"error " + api.Name(e)}
			}
			_, got := shell.Exec(s, "run "+what)
			if ran++; !slices.Equal(got, want) && len(what) < shell.MaxLine-20 {
				t.Fatalf("%s: run %s: %v, not %v", text, what, got, want)
			}
			compiled, line := shell.Exec(s, "compile "+what)
			if e != api.OK || strings.HasPrefix(line[0], "error ") {
				continue
			}
			if _, got := shell.Exec(compiled, "call "+what); got[0] != "error limit" {
				if called++; !slices.Equal(got, want) {
					t.Fatalf("%s: call %s: %v, not %v", text, what, got, want)
				}
			}
		}
	}
	t.Logf("%d runs, %d images", ran, called)
	if ran < 100 || called < 100 {
		t.Errorf("%d runs, %d images", ran, called)
	}
}

func TestWorkspaces(t *testing.T) { // W13
	r := rand.New(rand.NewSource(13))
	all := texts(13, 150)
	for _, text := range all {
		alone, e := build.Put(build.Space{}, "m", text)
		want, f := build.Program(alone)
		if e != api.OK || f != api.OK {
			t.Fatalf("%s: %d %d", text, e, f)
		}
		var s build.Space
		for range r.Intn(4) {
			other := all[r.Intn(len(all))]
			if r.Intn(3) == 0 {
				other = text[:r.Intn(len(text))]
			}
			if r.Intn(3) == 0 {
				other, _, _ = printer.Format(text)
			}
			s, _ = build.Put(s, "m", other)
			if r.Intn(3) > 0 {
				s, _ = build.Build(s)
			}
		}
		s, _ = build.Put(s, "m", text)
		if r.Intn(2) == 0 {
			s, _ = build.Build(s)
		}
		got, e := build.Program(s)
		isEqual := slices.EqualFunc(got.Defs, want.Defs, func(a, b api.Def) bool { return fmt.Sprint(a) == fmt.Sprint(b) })
		if e != api.OK || !isEqual || !slices.EqualFunc(got.Schemes, want.Schemes, types.EqualScheme) {
			t.Fatalf("%s: %d", text, e)
		}
	}
}
