package bits_test

import (
	"slices"
	"testing"

	"formfinder/api"
	"formfinder/bits"
)

// laws computes without errors: a law is about arguments for which there are none.
type laws struct{ *testing.T }

func (t laws) bin(op int, a, b api.Bits) api.Bits {
	c, e := bits.Bin(op, a, b)
	t.fine(e)
	return c
}

func (t laws) not(a api.Bits) api.Bits {
	c, e := bits.Not(a)
	t.fine(e)
	return c
}

func (t laws) part(a api.Bits, low, w int) api.Bits {
	c, e := bits.Part(a, low, w)
	t.fine(e)
	return c
}

func (t laws) join(a, b api.Bits) api.Bits {
	c, e := bits.Join(a, b)
	t.fine(e)
	return c
}

func (t laws) fine(e api.Errno) {
	if e != api.OK {
		t.Fatalf("error %d", e)
	}
}

func (t laws) same(law string, got, want api.Bits, args ...api.Bits) {
	if got != want {
		// The copy keeps args off the heap in the many calls that do not fail.
		t.Fatalf("%s, for %v: %v is not %v", law, slices.Clone(args), got, want)
	}
}

// P1.2
func TestRing(t *testing.T) {
	l := laws{t}
	pairs(func(a, b api.Bits) {
		sum, product := l.bin(api.OpAdd, a, b), l.bin(api.OpMul, a, b)
		l.same("a + b = b + a", sum, l.bin(api.OpAdd, b, a), a, b)
		l.same("a * b = b * a", product, l.bin(api.OpMul, b, a), a, b)
		l.same("a + b - b = a", l.bin(api.OpSub, sum, b), a, a, b)
		l.same("a - b + b = a", l.bin(api.OpAdd, l.bin(api.OpSub, a, b), b), a, a, b)
		for _, v := range values(a.W) {
			c := of(a.W, v)
			l.same("a * (b + c) = a * b + a * c", l.bin(api.OpMul, a, l.bin(api.OpAdd, b, c)), l.bin(api.OpAdd, product, l.bin(api.OpMul, a, c)), a, b, c)
			l.same("(a + b) + c = a + (b + c)", l.bin(api.OpAdd, sum, c), l.bin(api.OpAdd, a, l.bin(api.OpAdd, b, c)), a, b, c)
			l.same("(a * b) * c = a * (b * c)", l.bin(api.OpMul, product, c), l.bin(api.OpMul, a, l.bin(api.OpMul, b, c)), a, b, c)
		}
	})
}

// P1.3
func TestLogic(t *testing.T) {
	l := laws{t}
	pairs(func(a, b api.Bits) {
		and, or, xor := l.bin(api.OpAnd, a, b), l.bin(api.OpOr, a, b), l.bin(api.OpXor, a, b)
		notA, notB := l.not(a), l.not(b)
		for i := range a.W {
			x, y := l.part(a, i, 1).V, l.part(b, i, 1).V
			both, some, one := of(1, 0), of(1, 0), of(1, 0)
			if x == 1 && y == 1 {
				both.V = 1
			}
			if x == 1 || y == 1 {
				some.V = 1
			}
			if x != y {
				one.V = 1
			}
			l.same("and of bits", l.part(and, i, 1), both, a, b)
			l.same("or of bits", l.part(or, i, 1), some, a, b)
			l.same("exclusive or of bits", l.part(xor, i, 1), one, a, b)
			l.same("opposite of a bit", l.part(notA, i, 1), of(1, 1-x), a)
		}
		l.same("not (a and b) = not a or not b", l.not(and), l.bin(api.OpOr, notA, notB), a, b)
		l.same("not not a = a", l.not(notA), a, a)
		l.same("a - b = a + not b + 1", l.bin(api.OpSub, a, b), l.bin(api.OpAdd, l.bin(api.OpAdd, a, notB), of(a.W, 1)), a, b)
	})
}

// P1.4
func TestDivision(t *testing.T) {
	l := laws{t}
	pairs(func(a, b api.Bits) {
		quotient, remainder := l.bin(api.OpDiv, a, b), l.bin(api.OpRem, a, b)
		l.same("a / b * b + a % b = a", l.bin(api.OpAdd, l.bin(api.OpMul, quotient, b), remainder), a, a, b)
		if b.V == 0 {
			l.same("a / 0 is all ones", quotient, of(a.W, top(a.W)), a)
			l.same("a % 0 = a", remainder, a, a)
			return
		}
		l.same("a % b < b", l.bin(api.OpLt, remainder, b), of(1, 1), a, b)
		// The law of the product holds modulo 2^W, too, if the quotient is too large.
		if quotient.V > a.V/b.V {
			t.Fatalf("%v / %v: %v is too large", a, b, quotient)
		}
	})
}

// P1.5
func TestShifts(t *testing.T) {
	l := laws{t}
	pairs(func(a, b api.Bits) {
		up, down := l.bin(api.OpShl, a, b), l.bin(api.OpShr, a, b)
		if b.V >= uint64(a.W) {
			l.same("all bits are shifted up", up, of(a.W, 0), a, b)
			l.same("all bits are shifted down", down, of(a.W, 0), a, b)
			return
		}
		power := of(a.W, 1<<b.V)
		l.same("shifting up multiplies", up, l.bin(api.OpMul, a, power), a, b)
		l.same("shifting down divides", down, l.bin(api.OpDiv, a, power), a, b)
	})
}

// P1.6
func TestOrder(t *testing.T) {
	l := laws{t}
	pairs(func(a, b api.Bits) {
		less, greater, equal := l.bin(api.OpLt, a, b), l.bin(api.OpLt, b, a), l.bin(api.OpEq, a, b)
		if less.W != 1 || greater.W != 1 || equal.W != 1 || less.V+greater.V+equal.V != 1 {
			t.Fatalf("%v and %v: less %v, greater %v, equal %v", a, b, less, greater, equal)
		}
		high := of(a.W, 1<<(a.W-1))
		x, y := l.bin(api.OpXor, a, high), l.bin(api.OpXor, b, high)
		l.same("signed order is order with exchanged highest bits", l.bin(api.OpSlt, a, b), l.bin(api.OpLt, x, y), a, b)
	})
}

// P1.7
func TestPartsOfJoined(t *testing.T) {
	l := laws{t}
	for w := 1; w < 64; w++ {
		for u := 1; w+u <= 64; u++ {
			for _, v := range values(w) {
				a, b := of(w, v), of(u, ^v&top(u))
				joined := l.join(a, b)
				l.same("the upper part of a joined one", l.part(joined, u, w), a, a, b)
				l.same("the lower part of a joined one", l.part(joined, 0, u), b, a, b)
			}
		}
	}
}

// P1.7
func TestCutAndJoined(t *testing.T) {
	l := laws{t}
	for w := 1; w <= 64; w++ {
		for _, v := range values(w) {
			a := of(w, v)
			l.same("the part of all bits", l.part(a, 0, w), a, a)
			for cut := 1; cut < w; cut++ {
				l.same("cut and joined", l.join(l.part(a, cut, w-cut), l.part(a, 0, cut)), a, a)
			}
		}
	}
}

// P1.7
func TestPartsOfExtended(t *testing.T) {
	l := laws{t}
	for w := 1; w <= 64; w++ {
		for u := w; u <= 64; u++ {
			for _, v := range values(w) {
				a := of(w, v)
				zeros, e := bits.Zext(a, u)
				l.fine(e)
				copies, e := bits.Sext(a, u)
				l.fine(e)
				l.same("lowest bits with zeros", l.part(zeros, 0, w), a, a)
				l.same("lowest bits with copies", l.part(copies, 0, w), a, a)
				for i := w; i < u; i++ {
					l.same("a zero", l.part(zeros, i, 1), of(1, 0), a)
					l.same("a copy", l.part(copies, i, 1), l.part(a, w-1, 1), a)
				}
			}
		}
	}
}
