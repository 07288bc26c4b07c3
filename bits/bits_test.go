package bits_test

import (
	"fmt"
	"math"
	"math/big"
	"testing"

	"formfinder/api"
	"formfinder/bits"
)

// P1.1: the examples of the chapter.
func TestExamples(t *testing.T) {
	for _, x := range []struct {
		op         int
		a, b, want api.Bits
	}{
		{api.OpAdd, of(8, 200), of(8, 100), of(8, 44)},
		{api.OpDiv, of(8, 7), of(8, 0), of(8, 255)},
		{api.OpSlt, of(8, 255), of(8, 1), of(1, 1)},
	} {
		got, e := bits.Bin(x.op, x.a, x.b)
		good(t, fmt.Sprint(x.op, x.a, x.b), got, e, x.want)
	}
	got, e := bits.Sext(of(4, 8), 8)
	good(t, "Sext", got, e, of(8, 248))
	got, e = bits.Part(of(8, 171), 4, 4)
	good(t, "Part", got, e, of(4, 10))
	got, e = bits.Join(of(4, 10), of(4, 11))
	good(t, "Join", got, e, of(8, 171))
}

// P1.1, A1
func TestValid(t *testing.T) {
	for w := 1; w <= 64; w++ {
		for _, v := range values(w) {
			if !bits.Valid(of(w, v)) {
				t.Errorf("%v is valid", of(w, v))
			}
		}
	}
	for _, a := range append(invalid(), api.Bits{}) {
		if bits.Valid(a) {
			t.Errorf("%v is not valid", a)
		}
	}
}

func number(v uint64) *big.Int { return new(big.Int).SetUint64(v) }

func power(w int) *big.Int { return new(big.Int).Lsh(big.NewInt(1), uint(w)) }

// signedNumber is V if the bit W - 1 is 0, and V - 2^W otherwise.
func signedNumber(a api.Bits) *big.Int {
	n := number(a.V)
	if n.Bit(a.W-1) == 1 {
		n.Sub(n, power(a.W))
	}
	return n
}

// bitwise is the number whose bits are those of a table, by the bits of both numbers.
func bitwise(a, b api.Bits, table [2][2]uint) *big.Int {
	n := new(big.Int)
	for i := range a.W {
		n.SetBit(n, i, table[a.V>>i&1][b.V>>i&1])
	}
	return n
}

// model is the result of an operator as the chapter's table says it, with numbers of any size.
func model(op int, a, b api.Bits) api.Bits {
	x, y, n := number(a.V), number(b.V), new(big.Int)
	truth := func(holds bool) api.Bits {
		if holds {
			return of(1, 1)
		}
		return of(1, 0)
	}
	switch op {
	case api.OpAdd:
		n.Add(x, y)
	case api.OpSub:
		n.Sub(x, y)
	case api.OpMul:
		n.Mul(x, y)
	case api.OpDiv:
		if b.V == 0 {
			n.Sub(power(a.W), big.NewInt(1))
		} else {
			n.Div(x, y)
		}
	case api.OpRem:
		if b.V == 0 {
			n = x
		} else {
			n.Mod(x, y)
		}
	case api.OpAnd:
		n = bitwise(a, b, [2][2]uint{{0, 0}, {0, 1}})
	case api.OpOr:
		n = bitwise(a, b, [2][2]uint{{0, 1}, {1, 1}})
	case api.OpXor:
		n = bitwise(a, b, [2][2]uint{{0, 1}, {1, 0}})
	case api.OpShl:
		if b.V < uint64(a.W) {
			n.Mul(x, power(int(b.V)))
		}
	case api.OpShr:
		if b.V < uint64(a.W) {
			n.Div(x, power(int(b.V)))
		}
	case api.OpEq:
		return truth(x.Cmp(y) == 0)
	case api.OpLt:
		return truth(x.Cmp(y) < 0)
	case api.OpSlt:
		return truth(signedNumber(a).Cmp(signedNumber(b)) < 0)
	}
	return of(a.W, n.Mod(n, power(a.W)).Uint64())
}

// P1.1, A2
func TestBin(t *testing.T) {
	pairs(func(a, b api.Bits) {
		for _, op := range operators {
			got, e := bits.Bin(op, a, b)
			good(t, fmt.Sprint("operator ", op, a, b), got, e, model(op, a, b))
		}
	})
}

// P1.1, A2, P1
func TestBinErrors(t *testing.T) {
	for _, op := range notOperators {
		for _, b := range []api.Bits{of(8, 5), of(9, 5), of(8, 256), {}} {
			got, e := bits.Bin(op, of(8, 5), b)
			bad(t, fmt.Sprint("operator ", op, b), got, e, api.ErrArg)
		}
	}
	for _, op := range operators {
		for _, a := range invalid() {
			for _, b := range []api.Bits{of(8, 5), of(64, 0), a} {
				got, e := bits.Bin(op, a, b)
				bad(t, fmt.Sprint("operator ", op, a, b), got, e, api.ErrArg)
				got, e = bits.Bin(op, b, a)
				bad(t, fmt.Sprint("operator ", op, b, a), got, e, api.ErrArg)
			}
		}
		for w := 1; w <= 64; w++ {
			for u := 1; u <= 64; u++ {
				if w != u {
					got, e := bits.Bin(op, of(w, 1), of(u, 0))
					bad(t, fmt.Sprint("operator ", op, w, u), got, e, api.ErrWidth)
				}
			}
		}
	}
}

// P1.1, A3
func TestNot(t *testing.T) {
	for w := 1; w <= 64; w++ {
		for _, v := range values(w) {
			got, e := bits.Not(of(w, v))
			good(t, fmt.Sprint("Not", of(w, v)), got, e, of(w, top(w)-v))
		}
	}
	for _, a := range invalid() {
		got, e := bits.Not(a)
		bad(t, fmt.Sprint("Not", a), got, e, api.ErrArg)
	}
}

// P1.1, A4
func TestExtend(t *testing.T) {
	for w := 1; w <= 64; w++ {
		for u := 1; u <= 64; u++ {
			for _, v := range values(w) {
				a := of(w, v)
				what := fmt.Sprint("extend ", a, u)
				z, e := bits.Zext(a, u)
				s, f := bits.Sext(a, u)
				if u < w {
					bad(t, what, z, e, api.ErrWidth)
					bad(t, what, s, f, api.ErrWidth)
					continue
				}
				n := signedNumber(a)
				good(t, what, z, e, of(u, v))
				good(t, what, s, f, of(u, n.Mod(n, power(u)).Uint64()))
			}
		}
	}
}

// P1.1, A4, P1
func TestExtendErrors(t *testing.T) {
	check := func(a api.Bits, w int) {
		got, e := bits.Zext(a, w)
		bad(t, fmt.Sprint("Zext", a, w), got, e, api.ErrArg)
		got, e = bits.Sext(a, w)
		bad(t, fmt.Sprint("Sext", a, w), got, e, api.ErrArg)
	}
	for _, a := range invalid() {
		for _, w := range []int{1, 8, 64} {
			check(a, w)
		}
	}
	for _, w := range badWidths {
		check(of(8, 5), w)
		check(of(8, 256), w)
	}
}

// P1.1, A5
func TestPart(t *testing.T) {
	for w := 1; w <= 64; w++ {
		for low := range 67 {
			for u := 1; u <= 64; u++ {
				a := of(w, 0xb7e151628aed2a6b&top(w))
				got, e := bits.Part(a, low, u)
				what := fmt.Sprint("Part", a, low, u)
				if low+u > w {
					bad(t, what, got, e, api.ErrWidth)
					continue
				}
				n := number(a.V)
				n.Rsh(n, uint(low)).Mod(n, power(u))
				good(t, what, got, e, of(u, n.Uint64()))
			}
		}
	}
}

// P1.1, A5, P1
func TestPartErrors(t *testing.T) {
	for _, a := range invalid() {
		got, e := bits.Part(a, 0, 1)
		bad(t, fmt.Sprint("Part", a), got, e, api.ErrArg)
		got, e = bits.Part(a, 100, 1)
		bad(t, fmt.Sprint("Part", a), got, e, api.ErrArg)
	}
	for _, low := range []int{math.MinInt, -64, -1} {
		for _, w := range []int{1, 64, 65} {
			got, e := bits.Part(of(64, 5), low, w)
			bad(t, fmt.Sprint("Part from ", low, w), got, e, api.ErrArg)
		}
	}
	for _, w := range badWidths {
		for _, low := range []int{0, 3, 100} {
			got, e := bits.Part(of(64, 5), low, w)
			bad(t, fmt.Sprint("Part from ", low, w), got, e, api.ErrArg)
		}
	}
	for _, low := range []int{math.MaxInt, math.MaxInt - 63, 1<<32 + 1} {
		for _, w := range []int{1, 64} {
			got, e := bits.Part(of(64, 5), low, w)
			bad(t, fmt.Sprint("Part from ", low, w), got, e, api.ErrWidth)
		}
	}
}

// P1.1, A6
func TestJoin(t *testing.T) {
	for w := 1; w <= 64; w++ {
		for u := 1; u <= 64; u++ {
			for _, v := range []uint64{0, 1, 0x9e3779b97f4a7c15, math.MaxUint64} {
				a, b := of(w, v&top(w)), of(u, ^v&top(u))
				got, e := bits.Join(a, b)
				what := fmt.Sprint("Join", a, b)
				if w+u > 64 {
					bad(t, what, got, e, api.ErrWidth)
					continue
				}
				n := number(a.V)
				n.Mul(n, power(u)).Add(n, number(b.V))
				good(t, what, got, e, of(w+u, n.Uint64()))
			}
		}
	}
}

// P1.1, A6, P1
func TestJoinErrors(t *testing.T) {
	for _, a := range invalid() {
		for _, b := range []api.Bits{of(1, 1), of(64, 5), a} {
			got, e := bits.Join(a, b)
			bad(t, fmt.Sprint("Join", a, b), got, e, api.ErrArg)
			got, e = bits.Join(b, a)
			bad(t, fmt.Sprint("Join", b, a), got, e, api.ErrArg)
		}
	}
}

// P1: no argument makes a call panic, a result is valid, and with an error it is the zero value.
func TestAllArguments(t *testing.T) {
	numbers := append([]int{1, 7, 8, 63, 64}, badWidths...)
	vectors := append(invalid(), api.Bits{}, of(1, 1), of(8, 200), of(64, math.MaxUint64))
	check := func(what string, got api.Bits, e api.Errno) {
		if e == api.OK && !bits.Valid(got) || e != api.OK && got != (api.Bits{}) {
			t.Errorf("%s: %v, error %d", what, got, e)
		}
	}
	for _, a := range vectors {
		got, e := bits.Not(a)
		check("Not", got, e)
		for _, w := range numbers {
			got, e = bits.Zext(a, w)
			check("Zext", got, e)
			got, e = bits.Sext(a, w)
			check("Sext", got, e)
			for _, low := range append(numbers, 0) {
				got, e = bits.Part(a, low, w)
				check("Part", got, e)
			}
		}
		for _, b := range vectors {
			got, e = bits.Join(a, b)
			check("Join", got, e)
			for _, op := range append(notOperators, operators...) {
				got, e = bits.Bin(op, a, b)
				check("Bin", got, e)
			}
		}
	}
}
