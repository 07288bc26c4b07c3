package trace

import (
	"cmp"
	"iter"
	"maps"
	"slices"

	"formfinder/api"
)

// set is a set of goals.
type set map[api.Goal]bool

// goalsOf returns the goals of valid code, unless there are too many.
func goalsOf(c api.Code) (set, api.Errno) {
	goals := set{}
	for n, b := range c.Blocks {
		goals.addBlock(n, b.End.Kind)
	}
	for n, i := range c.Insts {
		for g := range faultsOf(n, i.Op) {
			goals[g] = true
		}
	}
	if len(goals) > api.MaxGoals {
		return nil, api.ErrLimit
	}
	return goals, api.OK
}

// addBlock adds the goals of a block that ends in some way.
func (s set) addBlock(n, end int) {
	s[api.Goal{Kind: api.GoalBlock, N: n}] = true
	switch end {
	case api.EndBranch:
		s[api.Goal{Kind: api.GoalTo, N: n}] = true
		s[api.Goal{Kind: api.GoalElse, N: n}] = true
	case api.EndReject:
		s[api.Goal{Kind: api.GoalReject, N: n}] = true
	}
}

// faultsOf yields the goals of an instruction.
func faultsOf(n, op int) iter.Seq[api.Goal] {
	return func(yield func(api.Goal) bool) {
		for _, fault := range faults(op) {
			if !yield(api.Goal{Kind: api.GoalFault, N: n, Code: fault}) {
				return
			}
		}
	}
}

// faults returns the faults that instructions with an operator may have.
func faults(op int) []int {
	switch op {
	case api.OpByte:
		return []int{api.FaultShort}
	case api.OpNew, api.OpMake, api.OpEmit:
		return []int{api.FaultSize}
	case api.OpLoad:
		return []int{api.FaultOut, api.FaultGone, api.FaultRaw}
	case api.OpPut:
		return []int{api.FaultOut, api.FaultGone}
	case api.OpFree:
		return []int{api.FaultGone}
	}
	return nil
}

// inOrder returns the goals of a set in order.
func (s set) inOrder() []api.Goal {
	return slices.SortedFunc(maps.Keys(s), func(a, b api.Goal) int {
		return cmp.Or(cmp.Compare(a.Kind, b.Kind), cmp.Compare(a.N, b.N), cmp.Compare(a.Code, b.Code))
	})
}
