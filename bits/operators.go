package bits

import (
	"cmp"

	"formfinder/api"
)

// vector is a valid bit vector, with the operators as methods.
type vector struct{ api.Bits }

// operator computes with two vectors of the same width.
type operator func(a, b vector) api.Bits

// find returns the operator with a number.
//
// There are three maps instead of one because operators are looked up at every
// step of a run: a map of at most eight entries that is not passed on takes no
// memory of its own, and only the one that is needed is filled.
func find(op int) (operator, bool) {
	switch {
	case op <= api.OpRem:
		return findArithmetic(op)
	case op <= api.OpShr:
		return findBitwise(op)
	}
	return findComparison(op)
}

func findArithmetic(op int) (operator, bool) {
	f, found := map[int]operator{
		api.OpAdd: vector.sum,
		api.OpSub: vector.difference,
		api.OpMul: vector.product,
		api.OpDiv: vector.quotient,
		api.OpRem: vector.remainder,
	}[op]
	return f, found
}

func findBitwise(op int) (operator, bool) {
	f, found := map[int]operator{
		api.OpAnd: vector.and,
		api.OpOr:  vector.or,
		api.OpXor: vector.xor,
		api.OpShl: vector.shiftedUp,
		api.OpShr: vector.shiftedDown,
	}[op]
	return f, found
}

func findComparison(op int) (operator, bool) {
	f, found := map[int]operator{
		api.OpEq:  vector.equal,
		api.OpLt:  vector.less,
		api.OpSlt: vector.signedLess,
	}[op]
	return f, found
}

func (a vector) sum(b vector) api.Bits        { return keep(a.W, a.V+b.V) }
func (a vector) difference(b vector) api.Bits { return keep(a.W, a.V-b.V) }
func (a vector) product(b vector) api.Bits    { return keep(a.W, a.V*b.V) }

func (a vector) quotient(b vector) api.Bits {
	if b.V == 0 {
		return keep(a.W, highest(a.W))
	}
	return keep(a.W, a.V/b.V)
}

func (a vector) remainder(b vector) api.Bits {
	if b.V == 0 {
		return a.Bits
	}
	return keep(a.W, a.V%b.V)
}

func (a vector) and(b vector) api.Bits { return keep(a.W, a.V&b.V) }
func (a vector) or(b vector) api.Bits  { return keep(a.W, a.V|b.V) }
func (a vector) xor(b vector) api.Bits { return keep(a.W, a.V^b.V) }

// Shifting by the width or more needs no case of its own: Go shifts all bits
// out, however far, and keep drops those that are moved above the width.
func (a vector) shiftedUp(b vector) api.Bits   { return keep(a.W, a.V<<b.V) }
func (a vector) shiftedDown(b vector) api.Bits { return keep(a.W, a.V>>b.V) }

func (a vector) equal(b vector) api.Bits      { return condition(a.V, b.V, 0) }
func (a vector) less(b vector) api.Bits       { return condition(a.V, b.V, -1) }
func (a vector) signedLess(b vector) api.Bits { return condition(a.signed(), b.signed(), -1) }

// signed returns the signed value.
func (a vector) signed() int64 {
	above := api.MaxWidth - a.W
	// Shifting an int64 down copies its highest bit, which is that of a now.
	return int64(a.V<<above) >> above
}

// condition returns the bit that says whether a and b compare as in order
// (-1: a is less, 0: they are equal).
func condition[T int64 | uint64](a, b T, order int) api.Bits {
	if cmp.Compare(a, b) == order {
		return api.Bits{W: 1, V: 1}
	}
	return api.Bits{W: 1, V: 0}
}
