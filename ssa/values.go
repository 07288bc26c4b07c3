package ssa

import "formfinder/api"

// firstStruct is the kind of a pointer to the first struct.
const firstStruct = api.MaxWidth + 1

// use is a value that is used in a block, before the instruction with an index.
type use struct {
	value, block, before int
}

// eachUse visits what all instructions and ends use, until a visit returns
// false; it reports whether none did.
func (c *code) eachUse(visit func(u use) bool) bool {
	for i, b := range c.Blocks {
		for j := b.From; j < b.Until; j++ {
			n := c.Insts[j]
			for _, v := range valuesOf(n)[:c.rows[n.Op].values] {
				if !visit(use{v, i, j}) {
					return false
				}
			}
		}
		for _, v := range usedByEnd(b.End) {
			if !visit(use{v, i, b.Until}) {
				return false
			}
		}
	}
	return true
}

// usedByEnd returns the values that an end uses.
func usedByEnd(e api.End) []int {
	var l []int
	if e.Kind == api.EndBranch {
		l = append(l, e.A)
	}
	for _, edge := range edgesOf(e) {
		l = append(l, edge.args...)
	}
	return l
}

// valuesFit reports whether each value that is used was computed before, on
// each way.
func (c *code) valuesFit() bool {
	return c.eachUse(func(u use) bool {
		if !isIndex(u.value, c.Insts) {
			return false
		}
		home := c.home[u.value]
		if home == u.block {
			return u.value < u.before
		}
		return c.dominators[u.block].has(home)
	})
}

// width returns the width of an integer. What is none has no valid width.
func (c *code) width(value int) int {
	return c.Insts[value].W
}

func (c *code) isInteger(value int) bool {
	return isWidth(c.width(value))
}

// haveOneWidth reports whether two values are integers of one width.
func (c *code) haveOneWidth(a, b int) bool {
	return c.isInteger(a) && c.width(a) == c.width(b)
}

// isKind reports whether a number is a kind of pointer.
func (c *code) isKind(p int) bool {
	return isWidth(p) || isIndex(p-firstStruct, c.Structs)
}

// cellWidth returns the width of the cell B of the object A. It is no valid
// width if there is no such cell.
func (c *code) cellWidth(n api.Inst) int {
	pointer, index := c.Insts[n.A], c.Insts[n.B]
	if !c.isKind(pointer.P) || !isWidth(index.W) {
		return 0
	}
	if isWidth(pointer.P) {
		return pointer.P
	}
	cells := c.Structs[pointer.P-firstStruct]
	if index.Op != api.OpConst || !isIndex(index.N, cells) {
		return 0
	}
	return cells[index.N]
}
