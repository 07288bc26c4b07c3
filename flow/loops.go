package flow

import "formfinder/api"

// backEdges returns for each block the blocks in which back edges to it begin,
// and reports whether the code is reducible.
func (g *graph) backEdges() (begins [][]int, reducible bool) {
	place := make([]int, len(g.order))
	for i, block := range g.order {
		place[block] = i
	}
	begins = make([][]int, len(g.order))
	for from, to := range g.edges() {
		if g.dominates(to, from) {
			begins[to] = append(begins[to], from)
		} else if place[to] < place[from] {
			// The walk of this order was within the block to when it came to the
			// block from, on a way whose edges are no back edges, as it enters no
			// block twice. This edge closes it to a way from a block to itself.
			return nil, false
		}
	}
	// All other edges lead on in the order, and so to no block a second time.
	return begins, true
}

// loops returns the loops, by where the back edges to their headers begin.
func (g *graph) loops(begins [][]int) []api.Loop {
	var l []api.Loop
	for head, starts := range begins {
		if len(starts) > 0 {
			l = append(l, api.Loop{Head: head, Blocks: g.loopBlocks(head, starts)})
		}
	}
	return l
}

// loopBlocks returns the blocks of the loop of a header, in increasing order.
func (g *graph) loopBlocks(head int, starts []int) []int {
	inside := reach(g.preds, starts, head)
	inside[head] = true
	var blocks []int
	for block, isInside := range inside {
		if isInside {
			blocks = append(blocks, block)
		}
	}
	return blocks
}
