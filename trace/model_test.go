package trace_test

import (
	"math/rand"
	"slices"
	"testing"

	"formfinder/api"
	"formfinder/machine"
)

// isGoal tells whether a goal is in the table of the chapter.
func isGoal(c api.Code, g api.Goal) bool {
	if g.Kind == api.GoalFault {
		if g.N >= len(c.Insts) {
			return false
		}
		possible := map[int][]int{
			api.OpByte: {api.FaultShort},
			api.OpNew:  {api.FaultSize}, api.OpMake: {api.FaultSize}, api.OpEmit: {api.FaultSize},
			api.OpLoad: {api.FaultOut, api.FaultGone, api.FaultRaw},
			api.OpPut:  {api.FaultOut, api.FaultGone},
			api.OpFree: {api.FaultGone},
		}
		return slices.Contains(possible[c.Insts[g.N].Op], g.Code)
	}
	if g.N >= len(c.Blocks) || g.Code != 0 {
		return false
	}
	switch end := c.Blocks[g.N].End.Kind; g.Kind {
	case api.GoalBlock:
		return true
	case api.GoalTo, api.GoalElse:
		return end == api.EndBranch
	}
	return c.Blocks[g.N].End.Kind == api.EndReject
}

// among are the goals of code that are as a function says, found one after the other in their order.
func among(c api.Code, fits func(g api.Goal) bool) []api.Goal {
	var l []api.Goal
	for kind := api.GoalBlock; kind <= api.GoalFault; kind++ {
		for n := range max(len(c.Blocks), len(c.Insts)) {
			for code := 0; code <= api.FaultSize; code++ {
				if g := (api.Goal{Kind: kind, N: n, Code: code}); isGoal(c, g) && fits(g) {
					l = append(l, g)
				}
			}
		}
	}
	return l
}

// run is a run after each number of steps, from 0 on.
type run []api.Machine

// runOf is a run of at most so many steps.
func runOf(t *testing.T, c api.Code, input []byte, most int) run {
	t.Helper()
	m, e := machine.Start(c, input)
	l := run{m}
	for e == api.OK && m.Out.Kind == 0 && m.Steps < most {
		m, e = machine.Step(c, input, m)
		l = append(l, m)
	}
	if e != api.OK {
		t.Fatal(c, input, e)
	}
	return l
}

// reaches tells whether the run reaches a goal within so many steps, as the chapter says.
func (r run) reaches(c api.Code, g api.Goal, steps int) bool {
	r = r[:min(steps+1, len(r))]
	out := r[len(r)-1].Out
	switch g.Kind {
	case api.GoalReject:
		return out.Kind == api.OutReject && out.N == g.N
	case api.GoalFault:
		return out.Kind == api.OutFault && out.N == g.N && out.Code == g.Code
	case api.GoalBlock:
		return slices.ContainsFunc(r, func(m api.Machine) bool { return m.Block == g.N })
	}
	b := c.Blocks[g.N]
	return slices.ContainsFunc(r[:len(r)-1], func(m api.Machine) bool {
		return m.Block == g.N && m.Next == b.Until && (m.Vals[b.End.A] == 1) == (g.Kind == api.GoalTo)
	})
}

// P11.1, K1: random code and parsers.
func TestModelGoals(t *testing.T) {
	for _, x := range samples(t, 1, 3000) {
		want := among(x.code, func(api.Goal) bool { return true })
		if got := goals(t, x.code); !slices.Equal(got, want) {
			t.Fatalf("%v: got %v, want %v", x.code, got, want)
		}
	}
}

// P11.1, K2: random code and parsers, after each number of steps.
func TestModelReached(t *testing.T) {
	for _, x := range samples(t, 2, 1000) {
		r := runOf(t, x.code, x.input, 100)
		for steps := range 101 {
			want := among(x.code, func(g api.Goal) bool { return r.reaches(x.code, g, steps) })
			if got := reached(t, x.code, x.input, steps); !slices.Equal(got, want) {
				t.Fatalf("%v: %d steps: got %v, want %v", x, steps, got, want)
			}
			if steps > len(r) && r[len(r)-1].Out.Kind != 0 {
				break
			}
		}
	}
}

// P11.1, K3: random code and parsers with several inputs.
func TestModelMissed(t *testing.T) {
	rng := rand.New(rand.NewSource(3))
	for _, x := range samples(t, 3, 1000) {
		steps := pick(rng, []int{0, 1, 5, 10, 20, 50, 200})
		var inputs [][]byte
		var runs []run
		for range rng.Intn(5) {
			input := randomInput(rng)
			inputs, runs = append(inputs, input), append(runs, runOf(t, x.code, input, steps))
		}
		want := among(x.code, func(g api.Goal) bool {
			return !slices.ContainsFunc(runs, func(r run) bool { return r.reaches(x.code, g, steps) })
		})
		if got := missed(t, x.code, inputs, steps); !slices.Equal(got, want) {
			t.Fatalf("%v on %v: %d steps: got %v, want %v", x.code, inputs, steps, got, want)
		}
	}
}
