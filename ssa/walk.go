package ssa

import (
	"slices"

	"formfinder/api"
)

// findOrder walks through the blocks that can be reached.
func (c *code) findOrder() {
	entered := make([]bool, len(c.Blocks))
	var enter func(block int)
	enter = func(block int) {
		entered[block] = true
		for _, e := range edgesOf(c.Blocks[block].End) {
			if !entered[e.to] {
				enter(e.to)
			}
		}
		c.order = append(c.order, block)
	}
	enter(0)
	slices.Reverse(c.order)
}

// findPredecessors finds the predecessors of all blocks.
func (c *code) findPredecessors() {
	c.preds = make([][]int, len(c.Blocks))
	for i, b := range c.Blocks {
		for _, e := range edgesOf(b.End) {
			// Both sides of a branch may lead to the same block.
			if l := c.preds[e.to]; len(l) == 0 || l[len(l)-1] != i {
				c.preds[e.to] = append(l, i)
			}
		}
	}
}

// blockSet is a set of blocks, a bit for each one.
type blockSet [(api.MaxBlocks + 63) / 64]uint64

func (s blockSet) has(block int) bool {
	return s[block/64]>>(block%64)&1 != 0
}

func (s *blockSet) add(block int) {
	s[block/64] |= 1 << (block % 64)
}

// keep leaves those out that another set does not have.
func (s *blockSet) keep(other blockSet) {
	for i := range s {
		s[i] &= other[i]
	}
}

func allBlocks() blockSet {
	var s blockSet
	for i := range s {
		s[i] = ^uint64(0)
	}
	return s
}

// findDominators finds which blocks dominate each block, if all blocks can be
// reached. A block other than the block 0 is dominated by itself, and by what
// dominates all its predecessors; of all sets that are so, the greatest ones
// are right, so that the work begins with all blocks.
func (c *code) findDominators() {
	c.dominators = slices.Repeat([]blockSet{allBlocks()}, len(c.Blocks))
	c.dominators[0] = blockSet{}
	c.dominators[0].add(0)
	for changed := true; changed; {
		changed = false
		for _, block := range c.order[1:] {
			s := allBlocks()
			for _, p := range c.preds[block] {
				s.keep(c.dominators[p])
			}
			s.add(block)
			changed = changed || s != c.dominators[block]
			c.dominators[block] = s
		}
	}
}
