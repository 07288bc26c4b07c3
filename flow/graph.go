package flow

import (
	"iter"
	"slices"

	"formfinder/api"
	"formfinder/ssa"
)

// blockSet says of each block whether it is in a set.
type blockSet []bool

// graph is the blocks of valid code, all of which can be reached.
type graph struct {
	order   []int      // all blocks, in reverse postorder
	preds   [][]int    // of each block
	succs   [][]int    // of each block
	without []blockSet // for each block, those that can be reached without it
}

// graphOf returns the graph of code, or api.ErrArg if the code is not valid.
func graphOf(c api.Code) (*graph, api.Errno) {
	order, e := ssa.Order(c)
	if e != api.OK {
		return nil, e
	}
	preds, e := ssa.Preds(c)
	if e != api.OK {
		return nil, e
	}
	g := &graph{order: order, preds: preds}
	for _, b := range c.Blocks {
		g.succs = append(g.succs, slices.Collect(successors(b.End)))
	}
	for block := range c.Blocks {
		g.without = append(g.without, reach(g.succs, []int{0}, block))
	}
	return g, api.OK
}

// successors yields the successors of a block with an end, To first.
func successors(e api.End) iter.Seq[int] {
	return func(yield func(block int) bool) {
		switch e.Kind {
		case api.EndJump:
			yield(e.To)
		case api.EndBranch:
			if yield(e.To) {
				yield(e.Else)
			}
		}
	}
}

// edges yields all edges, by the blocks between which they lead.
func (g *graph) edges() iter.Seq2[int, int] {
	return func(yield func(from, to int) bool) {
		for from, succs := range g.succs {
			for _, to := range succs {
				if !yield(from, to) {
					return
				}
			}
		}
	}
}

// reach returns the blocks on all ways that begin in one of some blocks, go on
// from a block to one of those that a list has for it, and do not contain a
// block that is left out.
func reach(next [][]int, starts []int, leftOut int) blockSet {
	reached := make(blockSet, len(next))
	var enter func(block int)
	enter = func(block int) {
		if block == leftOut || reached[block] {
			return
		}
		reached[block] = true
		for _, other := range next[block] {
			enter(other)
		}
	}
	for _, start := range starts {
		enter(start)
	}
	return reached
}

// dominates reports whether a block dominates another one, or is this one.
func (g *graph) dominates(block, other int) bool {
	return !g.without[block][other]
}

// immediateDominators returns the immediate dominator of each block, and -1 for
// the block 0.
func (g *graph) immediateDominators() []int {
	nearest := make([]int, len(g.order))
	nearest[0] = -1
	// Of two blocks that dominate a third one, one dominates the other, which
	// comes behind it in this order: the last one that is found is the nearest.
	for _, d := range g.order {
		for block := range nearest {
			if block != d && g.dominates(d, block) {
				nearest[block] = d
			}
		}
	}
	return nearest
}
