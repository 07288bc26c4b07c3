package ssa

import "formfinder/api"

// The fields that an instruction may use, apart from Op and At, and from A, B
// and C, which are values.
const (
	useWidth = 1 << iota
	useKind
	useNumber
)

// row is what the instructions with an operator are like: how many of A, B and
// C are values, which other fields they use, and whether all these fit together.
type row struct {
	values, fields int
	fits           func(c *code, n api.Inst) bool
}

// rows returns the rows by operators. What is no operator of an instruction has
// no function.
func rows() [api.OpEmit + 1]row {
	arithmetic := row{2, useWidth, (*code).arithmeticFits}
	comparison := row{2, useWidth, (*code).comparisonFits}
	extension := row{1, useWidth, (*code).extensionFits}
	return [...]row{
		api.OpConst: {0, useWidth | useNumber, (*code).constFits},
		api.OpAdd:   arithmetic,
		api.OpSub:   arithmetic,
		api.OpMul:   arithmetic,
		api.OpDiv:   arithmetic,
		api.OpRem:   arithmetic,
		api.OpAnd:   arithmetic,
		api.OpOr:    arithmetic,
		api.OpXor:   arithmetic,
		api.OpShl:   arithmetic,
		api.OpShr:   arithmetic,
		api.OpEq:    comparison,
		api.OpLt:    comparison,
		api.OpSlt:   comparison,
		api.OpNot:   {1, useWidth, (*code).notFits},
		api.OpZext:  extension,
		api.OpSext:  extension,
		api.OpPart:  {1, useWidth | useNumber, (*code).partFits},
		api.OpJoin:  {2, useWidth, (*code).joinFits},
		api.OpByte:  {1, useWidth, (*code).byteFits},
		api.OpLen:   {0, useWidth, (*code).lenFits},
		api.OpParam: {0, useWidth | useKind, (*code).paramFits},
		api.OpNew:   {1, useKind | useNumber, (*code).newFits},
		api.OpMake:  {0, useKind | useNumber, (*code).makeFits},
		api.OpLoad:  {2, useWidth, (*code).loadFits},
		api.OpPut:   {3, 0, (*code).putFits},
		api.OpFree:  {1, 0, (*code).freeFits},
		api.OpEmit:  {1, useNumber, (*code).emitFits},
	}
}

// fieldsFit reports whether all instructions have operators, parameters are
// where they may be, and what is not used is 0.
func (c *code) fieldsFit() bool {
	for i, n := range c.Insts {
		if !isPlace(n.At) || !isIndex(n.Op, c.rows[:]) || c.rows[n.Op].fits == nil {
			return false
		}
		if (n.Op == api.OpParam) != c.isParameter(i) || !c.rows[n.Op].leavesOut(n) {
			return false
		}
	}
	return c.params[0] == 0
}

// leavesOut reports whether the fields are 0 that the row does not mention.
func (r row) leavesOut(n api.Inst) bool {
	for _, v := range valuesOf(n)[r.values:] {
		if v != 0 {
			return false
		}
	}
	return (n.W == 0 || r.fields&useWidth != 0) &&
		(n.P == 0 || r.fields&useKind != 0) &&
		(n.N == 0 || r.fields&useNumber != 0)
}

// valuesOf returns the fields of an instruction that may be values.
func valuesOf(n api.Inst) []int {
	return []int{n.A, n.B, n.C}
}

// instructionsFit reports whether each instruction is as its row says.
func (c *code) instructionsFit() bool {
	for _, n := range c.Insts {
		if !c.rows[n.Op].fits(c, n) {
			return false
		}
	}
	return true
}

func (c *code) constFits(n api.Inst) bool {
	return isWidth(n.W) && n.N>>n.W == 0
}

func (c *code) arithmeticFits(n api.Inst) bool {
	return c.haveOneWidth(n.A, n.B) && n.W == c.width(n.A)
}

func (c *code) comparisonFits(n api.Inst) bool {
	return c.haveOneWidth(n.A, n.B) && n.W == 1
}

func (c *code) notFits(n api.Inst) bool {
	return c.isInteger(n.A) && n.W == c.width(n.A)
}

func (c *code) extensionFits(n api.Inst) bool {
	return c.isInteger(n.A) && within(n.W, c.width(n.A), api.MaxWidth)
}

func (c *code) partFits(n api.Inst) bool {
	// The number of the first bit could be too great for a sum.
	return c.isInteger(n.A) && within(n.W, 1, c.width(n.A)) && n.N <= uint64(c.width(n.A)-n.W)
}

func (c *code) joinFits(n api.Inst) bool {
	return c.isInteger(n.A) && c.isInteger(n.B) &&
		n.W == c.width(n.A)+c.width(n.B) && isWidth(n.W)
}

func (c *code) byteFits(n api.Inst) bool {
	return c.isInteger(n.A) && n.W == 8
}

func (c *code) lenFits(n api.Inst) bool {
	return n.W == 8
}

func (c *code) paramFits(n api.Inst) bool {
	if n.P == 0 {
		return isWidth(n.W)
	}
	return n.W == 0 && c.isKind(n.P)
}

func (c *code) newFits(n api.Inst) bool {
	return c.isInteger(n.A) && isWidth(n.P) && n.N == uint64(n.P)
}

func (c *code) makeFits(n api.Inst) bool {
	return isIndex(n.N, c.Structs) && n.P == firstStruct+int(n.N)
}

func (c *code) loadFits(n api.Inst) bool {
	w := c.cellWidth(n)
	return isWidth(w) && n.W == w
}

func (c *code) putFits(n api.Inst) bool {
	w := c.cellWidth(n)
	return isWidth(w) && c.width(n.C) == w
}

func (c *code) freeFits(n api.Inst) bool {
	return c.isKind(c.Insts[n.A].P)
}

func (c *code) emitFits(n api.Inst) bool {
	return c.isInteger(n.A) && isIndex(n.N, c.Names)
}
