package flow_test

import (
	"slices"
	"testing"

	"formfinder/api"
)

// The model follows the words of the chapter, for code of at most 64 blocks; sets of blocks are words of bits.

// successors are those of a block, the two of a branch in order.
func successors(c api.Code, i int) []int {
	switch e := c.Blocks[i].End; e.Kind {
	case api.EndJump:
		return []int{e.To}
	case api.EndBranch:
		return []int{e.To, e.Else}
	}
	return nil
}

// isReached says that there is a way from the block 0 to a block that does not contain another one (-1: any way).
func isReached(c api.Code, block, without int) bool {
	return connects(c, 0, block, func(i int) bool { return i != without })
}

// connects says that there is a way from a block to another one, or the same, of which all blocks are as a function says.
func connects(c api.Code, from, to int, fits func(block int) bool) bool {
	if !fits(from) {
		return false
	}
	seen := map[int]bool{from: true}
	for work := []int{from}; len(work) > 0; work = work[1:] {
		if work[0] == to {
			return true
		}
		for _, s := range successors(c, work[0]) {
			if fits(s) && !seen[s] {
				seen[s] = true
				work = append(work, s)
			}
		}
	}
	return false
}

// dominators are, for each block, what all ways from the block 0 to it contain, that have no block twice.
func dominators(c api.Code) []uint64 {
	l := slices.Repeat([]uint64{^uint64(0)}, len(c.Blocks))
	var walk func(block int, way uint64)
	walk = func(block int, way uint64) {
		way |= 1 << block
		l[block] &= way
		for _, s := range successors(c, block) {
			if way>>s&1 == 0 {
				walk(s, way)
			}
		}
	}
	walk(0, 0)
	return l
}

// doms is the only block of each one that is as the words say.
func doms(t *testing.T, c api.Code) []int {
	t.Helper()
	sets := dominators(c)
	l := []int{-1}
	for b := 1; b < len(c.Blocks); b++ {
		var found []int
		for d := range c.Blocks {
			if others := sets[b] &^ (1 << b); d != b && sets[b]>>d&1 != 0 && others&^sets[d] == 0 {
				found = append(found, d)
			}
		}
		if len(found) != 1 {
			t.Fatalf("%s: the immediate dominators of %d: %v", wordsOf(c), b, found)
		}
		l = append(l, found[0])
	}
	return l
}

// closure says between which blocks there is a way, of at least two blocks, of edges that are as a function says.
func closure(c api.Code, fits func(from, to int) bool) []uint64 {
	l := make([]uint64, len(c.Blocks))
	for i := range l {
		for _, s := range successors(c, i) {
			if fits(i, s) {
				l[i] |= 1 << s
			}
		}
	}
	for k := range l {
		for i := range l {
			if l[i]>>k&1 != 0 {
				l[i] |= l[k]
			}
		}
	}
	return l
}

// loops are those of code, and whether it is reducible.
func loops(c api.Code) ([]api.Loop, bool) {
	sets := dominators(c)
	isBack := func(from, to int) bool { return sets[from]>>to&1 != 0 }
	for i, to := range closure(c, func(from, to int) bool { return !isBack(from, to) }) {
		if to>>i&1 != 0 {
			return nil, false
		}
	}
	var l []api.Loop
	for h := range c.Blocks {
		ways := closure(c, func(from, to int) bool { return from != h && to != h })
		var begins uint64
		for u := range c.Blocks {
			if slices.Contains(successors(c, u), h) && isBack(u, h) {
				begins |= 1 << u
			}
		}
		if begins == 0 {
			continue
		}
		loop := api.Loop{Head: h}
		for b := range c.Blocks {
			if b == h || (ways[b]|1<<b)&begins != 0 {
				loop.Blocks = append(loop.Blocks, b)
			}
		}
		l = append(l, loop)
	}
	return l, true
}

// isStraight says that a side of the branch of a block is straight to a block.
func isStraight(c api.Code, block, side, m int) bool {
	if side == m {
		return true
	}
	edges := 0
	for i := range c.Blocks {
		for _, s := range successors(c, i) {
			if s == side && i != block {
				return false
			}
			if s == side {
				edges++
			}
		}
	}
	return edges == 1 && side != block && c.Blocks[side].End.Kind == api.EndJump && c.Blocks[side].End.To == m
}

// meets is the only block at which the branch of a block meets, if there is one.
func meets(t *testing.T, c api.Code, block int) (int, bool) {
	t.Helper()
	end := c.Blocks[block].End
	if end.Kind != api.EndBranch || end.To == end.Else {
		return 0, false
	}
	var found []int
	for m := range c.Blocks {
		if m != block && (end.To != m || end.Else != m) && isStraight(c, block, end.To, m) && isStraight(c, block, end.Else, m) {
			found = append(found, m)
		}
	}
	if len(found) > 1 {
		t.Fatalf("%s: the branch of %d meets at %v", wordsOf(c), block, found)
	}
	return append(found, 0)[0], len(found) == 1
}

func sameLoop(a, b api.Loop) bool { return a.Head == b.Head && slices.Equal(a.Blocks, b.Blocks) }
