package trace_test

import (
	"math/rand"
	"slices"
	"testing"

	"formfinder/api"
	"formfinder/machine"
	"formfinder/trace"
)

// numbers of steps for which laws are checked
var numbers = []int{0, 1, 2, 3, 4, 6, 9, 14, 21, 34, 55, 200, 3000, 20000}

// P11.2: what is reached is a goal of the code.
func TestGoalsOnly(t *testing.T) {
	seen := map[int]int{}
	for _, x := range samples(t, 11, 3000) {
		all := goals(t, x.code)
		for _, g := range reached(t, x.code, x.input, 500) {
			seen[g.Kind]++
			if !slices.Contains(all, g) {
				t.Fatalf("%v: %v is no goal", x, g)
			}
		}
	}
	for kind := api.GoalBlock; kind <= api.GoalFault; kind++ {
		if seen[kind] < 100 {
			t.Errorf("the kind %d was reached %d times", kind, seen[kind])
		}
	}
}

// P11.3: the reject or the fault of the outcome is reached, and no other one.
func TestOutcomeGoals(t *testing.T) {
	seen := map[int]int{}
	for _, x := range samples(t, 12, 2000) {
		for _, steps := range numbers {
			o, e := machine.Run(x.code, x.input, steps)
			if e != api.OK {
				t.Fatal(x, e)
			}
			seen[o.Kind]++
			var want []api.Goal
			switch o.Kind {
			case api.OutReject:
				want = []api.Goal{goal(api.GoalReject, o.N)}
			case api.OutFault:
				want = []api.Goal{fault(o.N, o.Code)}
			}
			got := slices.DeleteFunc(reached(t, x.code, x.input, steps), func(g api.Goal) bool { return g.Kind < api.GoalReject })
			if !slices.Equal(got, want) {
				t.Fatalf("%v: %d steps: got %v, want %v", x, steps, got, want)
			}
		}
	}
	for kind := api.OutAccept; kind <= api.OutBudget; kind++ {
		if seen[kind] < 100 {
			t.Errorf("the outcome %d was seen %d times", kind, seen[kind])
		}
	}
}

// P11.4: with more steps, no goal is lost.
func TestMoreSteps(t *testing.T) {
	for _, x := range samples(t, 13, 1500) {
		var before []api.Goal
		for _, steps := range numbers {
			l := reached(t, x.code, x.input, steps)
			for _, g := range before {
				if !slices.Contains(l, g) {
					t.Fatalf("%v: %v is lost with %d steps: %v", x, g, steps, l)
				}
			}
			before = l
		}
	}
}

// P11.5: each block that is reached, but the block 0, is a successor of one that is reached.
func TestWaysToBlocks(t *testing.T) {
	for _, x := range samples(t, 14, 1500) {
		for _, steps := range numbers {
			l := reached(t, x.code, x.input, steps)
			entered := map[int]bool{0: true}
			for _, g := range l {
				end := x.code.Blocks[0].End
				if g.Kind != api.GoalFault {
					end = x.code.Blocks[g.N].End
				}
				switch {
				case g.Kind == api.GoalBlock && end.Kind == api.EndJump, g.Kind == api.GoalTo:
					entered[end.To] = true
				case g.Kind == api.GoalElse:
					entered[end.Else] = true
				}
			}
			for _, g := range l {
				if g.Kind == api.GoalBlock && !entered[g.N] {
					t.Fatalf("%v: %d steps: no way to the block %d: %v", x, steps, g.N, l)
				}
				if (g.Kind == api.GoalTo || g.Kind == api.GoalElse) && !slices.Contains(l, goal(api.GoalBlock, g.N)) {
					t.Fatalf("%v: %d steps: a side of the block %d, which is not reached: %v", x, steps, g.N, l)
				}
			}
		}
	}
}

// P11.6: a goal is missed exactly if no input reaches it; with more inputs, no more are missed.
func TestMissing(t *testing.T) {
	r := rand.New(rand.NewSource(15))
	for _, x := range samples(t, 15, 800) {
		steps := pick(r, numbers)
		var inputs [][]byte
		found := map[api.Goal]bool{}
		before := goals(t, x.code)
		for range 5 {
			want := slices.DeleteFunc(goals(t, x.code), func(g api.Goal) bool { return found[g] })
			got := missed(t, x.code, inputs, steps)
			if !slices.Equal(got, want) {
				t.Fatalf("%v on %v: %d steps: got %v, want %v", x.code, inputs, steps, got, want)
			}
			for _, g := range got {
				if !slices.Contains(before, g) {
					t.Fatalf("%v on %v: %d steps: with one more input, %v is missed", x.code, inputs, steps, g)
				}
			}
			before = got
			input := randomInput(r)
			for _, g := range reached(t, x.code, input, steps) {
				found[g] = true
			}
			inputs = append(inputs, input)
		}
	}
}

// P11.7: the order of the inputs does not matter.
func TestOrderOfInputs(t *testing.T) {
	r := rand.New(rand.NewSource(16))
	for _, x := range samples(t, 16, 800) {
		steps := pick(r, numbers)
		var inputs [][]byte
		for range 1 + r.Intn(6) {
			inputs = append(inputs, randomInput(r))
		}
		want := missed(t, x.code, inputs, steps)
		for range 4 {
			r.Shuffle(len(inputs), func(i, j int) { inputs[i], inputs[j] = inputs[j], inputs[i] })
			if got := missed(t, x.code, inputs, steps); !slices.Equal(got, want) {
				t.Fatalf("%v on %v: %d steps: got %v, want %v", x.code, inputs, steps, got, want)
			}
		}
	}
}

// P1: arguments stay as they are, results share no memory, and depend only on the arguments.
func TestMemory(t *testing.T) {
	r := rand.New(rand.NewSource(17))
	for _, x := range samples(t, 17, 300) {
		c := cloneCode(x.code)
		inputs := [][]byte{x.input, randomInput(r), {}}
		given := text(inputs)
		results := func() [][]api.Goal {
			return [][]api.Goal{goals(t, x.code), reached(t, x.code, x.input, 100), missed(t, x.code, inputs, 100)}
		}
		first := results()
		want := text(first)
		for _, l := range first {
			for i := range l[:cap(l)] {
				l[:cap(l)][i] = api.Goal{Kind: 9, N: 9, Code: 9}
			}
		}
		if second := results(); text(second) != want || text(inputs) != given || !same(x.code, c) {
			t.Fatalf("%v on %v: got %v, want %v", c, inputs, second, want)
		}
		other, e := trace.Missed(c, [][]byte{slices.Clone(x.input), slices.Clone(inputs[1]), nil}, 100)
		if again := missed(t, x.code, inputs, 100); e != api.OK || !slices.Equal(again, other) {
			t.Fatalf("%v on %v: got %v, want %v", c, inputs, other, again)
		}
	}
}
