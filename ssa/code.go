package ssa

import (
	"slices"

	"formfinder/api"
)

// code is code with what was found out about it.
type code struct {
	api.Code
	rows       [api.OpEmit + 1]row // by operators
	params     []int               // how many each block has
	home       []int               // the block of each instruction
	order      []int               // the blocks that can be reached, in reverse postorder
	preds      [][]int             // of each block
	dominators []blockSet          // of each block
}

// examine finds out about code, and reports whether it is valid. Each step
// relies on those before it: what they have checked is in its range.
func examine(given api.Code) (*code, bool) {
	c := &code{Code: given, rows: rows()}
	if !c.listsFit() || !c.blocksFit() {
		return nil, false
	}
	c.findParameters()
	if !c.fieldsFit() || !c.endsFit() {
		return nil, false
	}
	c.findOrder()
	if len(c.order) != len(c.Blocks) {
		return nil, false
	}
	c.findPredecessors()
	c.findDominators()
	return c, c.valuesFit() && c.instructionsFit() && c.argumentsFit()
}

// listsFit reports whether there are as many structs, names, blocks and
// instructions as there may be, and the structs and names are as they must be.
func (c *code) listsFit() bool {
	return len(c.Structs) <= api.MaxStructs &&
		len(c.Names) <= api.MaxNames &&
		within(len(c.Blocks), 1, api.MaxBlocks) &&
		len(c.Insts) <= api.MaxInsts &&
		!slices.ContainsFunc(c.Structs, isNoStruct) &&
		namesFit(c.Names)
}

func isNoStruct(cells []int) bool {
	return !within(len(cells), 1, api.MaxCells) ||
		slices.ContainsFunc(cells, func(w int) bool { return !isWidth(w) })
}

// blocksFit reports whether the blocks share out the instructions, in order.
func (c *code) blocksFit() bool {
	from := 0
	for _, b := range c.Blocks {
		if b.From != from || b.Until < from {
			return false
		}
		from = b.Until
	}
	return from == len(c.Insts)
}

// findParameters finds the blocks of the instructions, and how many parameters
// each block has.
func (c *code) findParameters() {
	c.params = make([]int, len(c.Blocks))
	c.home = make([]int, len(c.Insts))
	for i, b := range c.Blocks {
		for j := b.From; j < b.Until; j++ {
			c.home[j] = i
			if c.Insts[j].Op == api.OpParam {
				c.params[i]++
			}
		}
	}
}

// isParameter reports whether an instruction stands where the parameters of its
// block are: at its beginning, as many instructions as it has parameters.
func (c *code) isParameter(i int) bool {
	block := c.home[i]
	return i < c.Blocks[block].From+c.params[block]
}

// within reports whether a number is from low to high.
func within[N int | uint64](n, low, high N) bool {
	return low <= n && n <= high
}

// isIndex reports whether a list has an element with this index.
func isIndex[N int | uint64, T any](n N, list []T) bool {
	return 0 <= n && uint64(n) < uint64(len(list))
}

func isWidth(w int) bool {
	return within(w, 1, api.MaxWidth)
}

func isPlace(at int) bool {
	return within(at, 0, api.MaxSource)
}
