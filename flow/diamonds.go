package flow

import "formfinder/api"

// meetingBlock returns the block at which the branch of a block meets, if this
// ends with a branch that does.
func meetingBlock(blocks []api.Block, preds [][]int, block int) (int, bool) {
	end := blocks[block].End
	if end.Kind != api.EndBranch || end.To == end.Else {
		return 0, false
	}
	isStraight := func(side, to int) bool {
		return side == to || isPassage(blocks[side], preds[side], to)
	}
	// The side To is straight only to itself, and to where it jumps.
search:
	for _, meeting := range []int{end.To, blocks[end.To].End.To} {
		if meeting == block {
			continue
		}
		for side := range successors(end) {
			if !isStraight(side, meeting) {
				continue search
			}
		}
		return meeting, true
	}
	return 0, false
}

// isPassage reports whether a side of a branch is entered from there alone, and
// jumps to a block. As the sides differ, one edge leads to it from there; and as
// it jumps, it is not the block with the branch.
func isPassage(side api.Block, preds []int, to int) bool {
	return len(preds) == 1 && side.End.Kind == api.EndJump && side.End.To == to
}
