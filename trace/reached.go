package trace

import (
	"formfinder/api"
	"formfinder/machine"
)

// validInputs reports whether runs on inputs may be asked for.
func validInputs(inputs [][]byte) bool {
	if len(inputs) > maxInputs {
		return false
	}
	for _, input := range inputs {
		if len(input) > api.MaxInput {
			return false
		}
	}
	return true
}

// addRun adds the goals that a run of so many steps reaches. The arguments are
// valid, so that Follow has no error.
func (s set) addRun(c api.Code, input []byte, steps int) {
	s[api.Goal{Kind: api.GoalBlock}] = true
	out, _ := machine.Follow(c, input, steps, func(block int, to bool) {
		s.addTurn(block, c.Blocks[block].End, to)
	})
	switch out.Kind {
	case api.OutReject:
		s[api.Goal{Kind: api.GoalReject, N: out.N}] = true
	case api.OutFault:
		s[api.Goal{Kind: api.GoalFault, N: out.N, Code: out.Code}] = true
	}
}

// addTurn adds the goals of a step from a block to its To or its Else.
func (s set) addTurn(block int, end api.End, to bool) {
	side, next := api.GoalTo, end.To
	if !to {
		side, next = api.GoalElse, end.Else
	}
	if end.Kind == api.EndBranch {
		s[api.Goal{Kind: side, N: block}] = true
	}
	s[api.Goal{Kind: api.GoalBlock, N: next}] = true
}
