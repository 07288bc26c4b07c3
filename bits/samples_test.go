package bits_test

import (
	"math"
	"testing"

	"formfinder/api"
)

// operators are all operators, in the order of their numbers.
var operators = []int{
	api.OpAdd, api.OpSub, api.OpMul, api.OpDiv, api.OpRem, api.OpAnd, api.OpOr, api.OpXor,
	api.OpShl, api.OpShr, api.OpEq, api.OpLt, api.OpSlt,
}

// notOperators are numbers beside those of the operators, and extreme ones.
var notOperators = []int{
	math.MinInt, -api.OpAdd, -1, 0, api.OpConst, api.OpNot, api.OpZext, api.OpSext, api.OpPart,
	api.OpJoin, api.OpIte, api.OpByte, api.OpLen, 23, 29, api.OpParam, api.OpEmit, 256 + api.OpAdd,
	1<<32 + api.OpAdd, math.MaxInt,
}

// badWidths are numbers that no bit vector has as its width.
var badWidths = []int{math.MinInt, -1 << 32, -64, -8, -1, 0, 65, 72, 128, 264, 1<<32 + 8, math.MaxInt}

// invalid are bit vectors that are not valid: by their width, or by their value.
func invalid() []api.Bits {
	var l []api.Bits
	for _, w := range badWidths {
		l = append(l, of(w, 0), of(w, 1), of(w, math.MaxUint64))
	}
	for w := 1; w < 64; w++ {
		l = append(l, of(w, 1<<w), of(w, 1<<w+1), of(w, math.MaxUint64))
	}
	return l
}

func of(w int, v uint64) api.Bits { return api.Bits{W: w, V: v} }

// top is the greatest value of a width.
func top(w int) uint64 {
	if w == 64 {
		return math.MaxUint64
	}
	return 1<<w - 1
}

// values are all values of a small width, and otherwise those at which something changes, with a few patterns.
func values(w int) []uint64 {
	var l []uint64
	if w <= 4 {
		for v := range uint64(1) << w {
			l = append(l, v)
		}
		return l
	}
	half := uint64(1) << (w - 1)
	seen := map[uint64]bool{}
	for _, v := range []uint64{
		0, 1, 2, 3, 7, 10, uint64(w - 1), uint64(w), uint64(w + 1), half - 1, half, half + 1, top(w) - 1, top(w),
		0xaaaaaaaaaaaaaaaa, 0x0123456789abcdef, 0xfedcba9876543210,
	} {
		v &= top(w)
		if !seen[v] {
			seen[v] = true
			l = append(l, v)
		}
	}
	return l
}

// pairs calls f for pairs of bit vectors of the same width, for all widths.
func pairs(f func(a, b api.Bits)) {
	for w := 1; w <= 64; w++ {
		for _, v := range values(w) {
			for _, u := range values(w) {
				f(of(w, v), of(w, u))
			}
		}
	}
}

// good fails the test unless a call succeeded with a value.
func good(t *testing.T, what string, got api.Bits, e api.Errno, want api.Bits) {
	t.Helper()
	if e != api.OK || got != want {
		t.Fatalf("%s: %v, error %d; want %v", what, got, e, want)
	}
}

// bad fails the test unless a call returned an error, and nothing else.
func bad(t *testing.T, what string, got api.Bits, e, want api.Errno) {
	t.Helper()
	if e != want || got != (api.Bits{}) {
		t.Fatalf("%s: %v, error %d; want the zero value and error %d", what, got, e, want)
	}
}
