// Package bits is layer 1: see shared/doc/01-bits.md.
package bits

import "formfinder/api"

// Valid reports whether a bit vector is valid.
func Valid(a api.Bits) bool {
	return validWidth(a.W) && a.V <= highest(a.W)
}

// Bin returns the result of an operator with two arguments.
func Bin(op int, a, b api.Bits) (api.Bits, api.Errno) {
	run, found := find(op)
	if !found || !Valid(a) || !Valid(b) {
		return api.Bits{}, api.ErrArg
	}
	if a.W != b.W {
		return api.Bits{}, api.ErrWidth
	}
	return run(vector{a}, vector{b}), api.OK
}

// Not returns the opposite of each bit.
func Not(a api.Bits) (api.Bits, api.Errno) {
	if !Valid(a) {
		return api.Bits{}, api.ErrArg
	}
	return keep(a.W, ^a.V), api.OK
}

// Zext returns a bit vector that is extended with zeros.
func Zext(a api.Bits, w int) (api.Bits, api.Errno) {
	if e := checkExtension(a, w); e != api.OK {
		return api.Bits{}, e
	}
	return keep(w, a.V), api.OK
}

// Sext returns a bit vector that is extended with its highest bit.
func Sext(a api.Bits, w int) (api.Bits, api.Errno) {
	if e := checkExtension(a, w); e != api.OK {
		return api.Bits{}, e
	}
	return keep(w, uint64(vector{a}.signed())), api.OK
}

// Part returns some bits of a bit vector.
func Part(a api.Bits, low, w int) (api.Bits, api.Errno) {
	if !Valid(a) || low < 0 || !validWidth(w) {
		return api.Bits{}, api.ErrArg
	}
	// low + w could overflow, a.W - w cannot.
	if low > a.W-w {
		return api.Bits{}, api.ErrWidth
	}
	return keep(w, a.V>>low), api.OK
}

// Join returns a bit vector of two parts, the first one above the second one.
func Join(a, b api.Bits) (api.Bits, api.Errno) {
	if !Valid(a) || !Valid(b) {
		return api.Bits{}, api.ErrArg
	}
	if a.W+b.W > api.MaxWidth {
		return api.Bits{}, api.ErrWidth
	}
	return keep(a.W+b.W, a.V<<b.W|b.V), api.OK
}

// validWidth reports whether a bit vector may have this width.
func validWidth(w int) bool {
	return 1 <= w && w <= api.MaxWidth
}

// highest returns the greatest value of a valid width, which has all bits.
func highest(w int) uint64 {
	return ^uint64(0) >> (api.MaxWidth - w)
}

// keep returns the lowest w bits of v as a bit vector.
func keep(w int, v uint64) api.Bits {
	return api.Bits{W: w, V: v & highest(w)}
}

// checkExtension returns the error of extending a bit vector to the width w.
func checkExtension(a api.Bits, w int) api.Errno {
	if !Valid(a) || !validWidth(w) {
		return api.ErrArg
	}
	if w < a.W {
		return api.ErrWidth
	}
	return api.OK
}
