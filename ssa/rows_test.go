package ssa_test

import (
	"math"
	"slices"
	"strings"
	"testing"

	"formfinder/api"
)

// The values of stock, before tested.
const (
	bit = iota
	octet
	two
	word // of 64 bits
	half // of 16 bits
	array
	object
	other // an object of the other struct
	zero
	three
	none
	wide // an array of cells of 64 bits
	one  // of 4 bits
	most // all 64 bits
	tested
	behind
)

// stock is code with values of all sorts, and an instruction more, behind which is another one.
func stock(n api.Inst) api.Code {
	return codeOf(blockOf(accept(),
		constant(1, 1), length(), constant(8, 2), constant(64, 0), constant(16, 1),
		api.Inst{Op: api.OpNew, P: 8, A: octet, N: 8}, api.Inst{Op: api.OpMake, P: 65}, api.Inst{Op: api.OpMake, P: 66, N: 1},
		constant(8, 0), constant(8, 3), emit(0, 0), api.Inst{Op: api.OpNew, P: 64, A: bit, N: 64}, constant(4, 1), constant(64, math.MaxUint64),
		n, length(),
	))
}

// entry is instructions of one sort, the fields that they use, and what their values are: i an integer, p a pointer.
type entry struct {
	fields, values string
	right, wrong   []api.Inst
}

func unary(op, w, a int, n uint64) api.Inst { return api.Inst{Op: op, W: w, A: a, N: n} }

func load(w, a, b int) api.Inst { return api.Inst{Op: api.OpLoad, W: w, A: a, B: b} }

func put(a, b, c int) api.Inst { return api.Inst{Op: api.OpPut, A: a, B: b, C: c} }

func create(a, w int) api.Inst { return api.Inst{Op: api.OpNew, P: w, A: a, N: uint64(w)} }

func free(a int) api.Inst { return api.Inst{Op: api.OpFree, A: a} }

// entries are the rows of the chapter's table, but for OpParam.
func entries() []entry {
	all := uint64(math.MaxUint64)
	l := []entry{
		{"WN", "", []api.Inst{constant(1, 0), constant(1, 1), constant(8, 255), constant(63, all>>1), constant(64, all), constant(64, 0), constant(9, 256)},
			[]api.Inst{constant(0, 0), constant(-1, 0), constant(65, 0), constant(1, 2), constant(8, 256), constant(63, 1<<63), constant(63, all), constant(math.MaxInt, 1), constant(math.MinInt, 0)}},
		{"W", "", []api.Inst{length()}, []api.Inst{{Op: api.OpLen}, {Op: api.OpLen, W: 7}, {Op: api.OpLen, W: 9}, {Op: api.OpLen, W: 64}, {Op: api.OpLen, W: -8}}},
		{"W", "i", []api.Inst{unary(api.OpNot, 1, bit, 0), unary(api.OpNot, 8, two, 0), unary(api.OpNot, 64, word, 0)}, []api.Inst{unary(api.OpNot, 8, bit, 0), unary(api.OpNot, 0, two, 0), unary(api.OpNot, 1, two, 0), unary(api.OpNot, 9, two, 0)}},
		{"W", "i", []api.Inst{unary(api.OpByte, 8, bit, 0), unary(api.OpByte, 8, octet, 0), unary(api.OpByte, 8, word, 0)}, []api.Inst{unary(api.OpByte, 0, octet, 0), unary(api.OpByte, 7, octet, 0), unary(api.OpByte, 16, half, 0), unary(api.OpByte, 64, word, 0)}},
		{"WN", "i", []api.Inst{unary(api.OpPart, 1, bit, 0), unary(api.OpPart, 8, octet, 0), unary(api.OpPart, 1, octet, 7), unary(api.OpPart, 4, octet, 4), unary(api.OpPart, 64, word, 0), unary(api.OpPart, 1, word, 63), unary(api.OpPart, 63, word, 1)},
			[]api.Inst{unary(api.OpPart, 0, octet, 0), unary(api.OpPart, 0, octet, 8), unary(api.OpPart, -1, octet, 9), unary(api.OpPart, 9, octet, 0), unary(api.OpPart, 1, octet, 8), unary(api.OpPart, 8, octet, 1), unary(api.OpPart, 4, octet, 5), unary(api.OpPart, 64, word, 1), unary(api.OpPart, 1, word, 64), unary(api.OpPart, 65, word, 0), unary(api.OpPart, 65, word, all), unary(api.OpPart, 1, octet, all), unary(api.OpPart, 8, octet, all-7), unary(api.OpPart, 1, octet, 1<<63), unary(api.OpPart, math.MaxInt, octet, 1), unary(api.OpPart, math.MinInt, octet, 1<<63)}},
		{"W", "ii", []api.Inst{binary(api.OpJoin, 2, bit, bit), binary(api.OpJoin, 9, bit, octet), binary(api.OpJoin, 24, octet, half), binary(api.OpJoin, 24, half, two), binary(api.OpJoin, 16, two, two)},
			[]api.Inst{binary(api.OpJoin, 0, octet, octet), binary(api.OpJoin, 8, octet, octet), binary(api.OpJoin, 15, octet, octet), binary(api.OpJoin, 17, octet, octet), binary(api.OpJoin, 65, bit, word), binary(api.OpJoin, 64, bit, word), binary(api.OpJoin, 128, word, word), binary(api.OpJoin, 64, word, word), binary(api.OpJoin, 72, word, two), binary(api.OpJoin, 8, array, octet), binary(api.OpJoin, 8, octet, none)}},
		{"PN", "i", []api.Inst{create(bit, 1), create(octet, 8), create(half, 64), create(word, 63)},
			[]api.Inst{create(octet, 0), create(octet, 65), create(octet, 66), create(octet, 67), create(octet, -1), {Op: api.OpNew, A: octet, P: 8}, {Op: api.OpNew, A: octet, N: 8}, {Op: api.OpNew, A: octet, P: 8, N: 9}, {Op: api.OpNew, A: octet, P: 9, N: 8}, {Op: api.OpNew, A: octet, P: 65, N: 0}, {Op: api.OpNew, A: octet, P: 66, N: 1}, {Op: api.OpNew, A: octet, P: 8, N: 1<<63 + 8}, {Op: api.OpNew, A: octet, P: math.MinInt, N: 1 << 63}}},
		{"PN", "", []api.Inst{{Op: api.OpMake, P: 65, N: 0}, {Op: api.OpMake, P: 66, N: 1}},
			[]api.Inst{{Op: api.OpMake}, {Op: api.OpMake, P: 64}, {Op: api.OpMake, P: 66}, {Op: api.OpMake, P: 65, N: 1}, {Op: api.OpMake, P: 67, N: 2}, {Op: api.OpMake, P: 1, N: 1}, {Op: api.OpMake, P: 64, N: all}, {Op: api.OpMake, N: all - 64}, {Op: api.OpMake, P: math.MaxInt, N: math.MaxInt - 65}, {Op: api.OpMake, P: math.MinInt + 65, N: 1 << 63}}},
		{"W", "pi", []api.Inst{load(8, array, octet), load(8, array, two), load(8, array, bit), load(8, array, word), load(64, wide, most), load(64, wide, half), load(8, object, zero), load(16, object, one), load(1, object, two), load(8, object, word), load(64, other, zero), load(16, object, bit)},
			[]api.Inst{load(0, array, octet), load(1, array, octet), load(7, array, octet), load(9, array, octet), load(64, array, octet), load(8, wide, octet), load(65, object, zero), load(0, object, zero), load(16, object, zero), load(8, object, one), load(8, object, three), load(1, object, three), load(0, object, three), load(8, object, octet), load(8, object, most), load(64, other, one), load(8, other, zero), load(64, other, octet), load(64, object, zero), load(1, other, two), load(66, other, zero)}},
		{"", "pii", []api.Inst{put(array, octet, two), put(array, octet, octet), put(array, word, zero), put(wide, octet, word), put(wide, octet, most), put(object, zero, octet), put(object, one, half), put(object, two, bit), put(other, word, word)},
			[]api.Inst{put(array, octet, bit), put(array, octet, half), put(array, octet, word), put(wide, octet, octet), put(object, zero, half), put(object, one, octet), put(object, three, octet), put(object, three, bit), put(object, octet, octet), put(object, most, bit), put(other, one, word), put(other, zero, octet), put(other, octet, word), put(object, zero, none)}},
		{"", "p", []api.Inst{free(array), free(object), free(other), free(wide)}, nil},
		{"N", "i", []api.Inst{emit(bit, 0), emit(octet, 1), emit(word, 0)}, []api.Inst{emit(bit, 2), emit(bit, 3), emit(bit, 1<<63), emit(bit, all)}},
	}
	for op := api.OpAdd; op <= api.OpSlt; op++ {
		e := entry{fields: "W", values: "ii"}
		for _, x := range []struct{ w, a, b int }{{1, bit, bit}, {8, octet, two}, {8, zero, three}, {16, half, half}, {64, word, most}, {64, most, most}} {
			result, others := x.w, []int{0, x.w - 1, x.w + 1, -x.w, 8, 2}
			if op >= api.OpEq {
				result = 1
			}
			e.right = append(e.right, binary(op, result, x.a, x.b))
			for _, w := range slices.DeleteFunc(append(others, x.w), func(w int) bool { return w == result }) {
				e.wrong = append(e.wrong, binary(op, w, x.a, x.b))
			}
			for _, w := range []int{1, 8, 16, 64} {
				e.wrong = append(e.wrong, binary(op, w, x.a, one), binary(op, w, one, x.b))
			}
		}
		e.wrong = append(e.wrong, binary(op, 8, octet, half), binary(op, 16, octet, half), binary(op, 1, octet, half), binary(op, 1, bit, octet), binary(op, 8, bit, octet), binary(op, 1, octet, bit), binary(op, 0, array, array), binary(op, 8, array, array), binary(op, 1, array, array), binary(op, 1, object, object), binary(op, 0, none, none), binary(op, 1, none, none))
		l = append(l, e)
	}
	for _, op := range []int{api.OpZext, api.OpSext} {
		e := entry{fields: "W", values: "i", wrong: []api.Inst{unary(op, 65, word, 0), unary(op, 63, word, 0), unary(op, 0, octet, 0), unary(op, -1, bit, 0), unary(op, 0, bit, 0), unary(op, math.MaxInt, octet, 0)}}
		for w := range 70 {
			if 8 <= w && w <= 64 {
				e.right = append(e.right, unary(op, w, two, 0))
			} else {
				e.wrong = append(e.wrong, unary(op, w, two, 0))
			}
		}
		e.right = append(e.right, unary(op, 1, bit, 0), unary(op, 64, bit, 0), unary(op, 64, most, 0))
		l = append(l, e)
	}
	return l
}

// operands are the fields of an instruction that may be values.
func operands(n *api.Inst) []*int { return []*int{&n.A, &n.B, &n.C} }

// P6.1, F1: rule 3, with the rows of the table.
func TestRows(t *testing.T) {
	seen := map[int]bool{}
	for _, e := range entries() {
		for _, n := range e.right {
			seen[n.Op] = true
			good(t, n, stock(n))
			for _, other := range unused(e, n) {
				bad(t, other, stock(other))
			}
			for i, sort := range e.values {
				for _, v := range []int{math.MinInt, -1, tested, behind, behind + 1, math.MaxInt, none} {
					m := n
					*operands(&m)[i] = v
					bad(t, m, stock(m))
				}
				for _, v := range map[rune][]int{'i': {array, object, other, wide}, 'p': {bit, octet, two, word, half, one}}[sort] {
					m := n
					*operands(&m)[i] = v
					bad(t, m, stock(m))
				}
			}
			for at, valid := range map[int]bool{math.MinInt: false, -1: false, 0: true, 1: true, 3999: true, 4000: true, 4001: false, math.MaxInt: false} {
				m := n
				m.At = at
				if expect(t, stock(m)) != valid {
					t.Errorf("%v: want %v", m, valid)
				}
			}
		}
		for _, n := range e.wrong {
			bad(t, n, stock(n))
		}
	}
	for _, op := range operators {
		if !seen[op] {
			t.Error("no row of", op)
		}
	}
}

// unused are instructions with something in a field that their row does not mention.
func unused(e entry, n api.Inst) []api.Inst {
	var l []api.Inst
	for _, x := range []int{1, 8, -1, 65, math.MinInt} {
		for i := len(e.values); i < 3; i++ {
			m := n
			*operands(&m)[i] = x
			l = append(l, m)
		}
		if !strings.Contains(e.fields, "W") {
			m := n
			m.W = x
			l = append(l, m)
		}
		if !strings.Contains(e.fields, "P") {
			m := n
			m.P = x
			l = append(l, m)
		}
		if !strings.Contains(e.fields, "N") {
			m := n
			m.N = uint64(x)
			l = append(l, m)
		}
	}
	return l
}

// P6.1, F1: numbers that are those of no instruction.
func TestNoOperators(t *testing.T) {
	for op := -5; op < 300; op++ {
		if slices.Contains(operators, op) {
			continue
		}
		for _, n := range []api.Inst{{Op: op}, unary(op, 8, octet, 0), binary(op, 8, octet, octet), {Op: op, W: 8, A: bit, B: octet, C: two}, {Op: op, W: 1, A: bit, B: bit, C: bit}, {Op: op, A: octet}, {Op: op, P: 65}, {Op: op, W: 8}, {Op: op, W: 8, N: 1}} {
			bad(t, n, stock(n))
		}
	}
	for _, op := range []int{math.MinInt, -1 << 32, 1<<32 + api.OpLen, math.MaxInt} {
		bad(t, op, stock(api.Inst{Op: op, W: 8}))
	}
}

// P6.1, F1: all instructions whose fields differ in two ways from right ones, by the model.
func TestTwoChanges(t *testing.T) {
	count := map[bool]int{}
	numbers := []uint64{0, 1, 2, 8, 64, 65, 255, math.MaxUint64}
	ints := []int{-1, 0, 1, 2, 3, 7, 8, 9, 15, 16, 17, 24, 63, 64, 65, 66, 67}
	values := []int{-1, bit, octet, two, half, array, object, other, wide, one, most, tested}
	for _, e := range entries() {
		var l []func(n *api.Inst)
		for _, x := range ints {
			l = append(l, func(n *api.Inst) { n.W = x }, func(n *api.Inst) { n.P = x })
		}
		for _, x := range values {
			l = append(l, func(n *api.Inst) { n.A = x }, func(n *api.Inst) { n.B = x }, func(n *api.Inst) { n.C = x })
		}
		for _, x := range numbers {
			l = append(l, func(n *api.Inst) { n.N = x })
		}
		for i := range l {
			for j := range i {
				n := e.right[(i+j)%len(e.right)]
				l[i](&n)
				l[j](&n)
				count[expect(t, stock(n))]++
			}
		}
	}
	if count[true] < 1000 || count[false] < 10000 {
		t.Error("few instructions of a sort:", count)
	}
}

// P6.1, F1: rule 3 about parameters.
func TestParameters(t *testing.T) {
	// with is code with a parameter of the block 1, to which a value is passed.
	with := func(value, param api.Inst) api.Code {
		return codeOf(blockOf(jump(1, 1), constant(64, 0), value), blockOf(accept(), param))
	}
	for w := 1; w <= 64; w++ {
		good(t, w, with(constant(w, 0), integer(w)))
		good(t, w, with(create(0, w), pointer(w)))
	}
	good(t, "struct 0", with(api.Inst{Op: api.OpMake, P: 65}, pointer(65)))
	good(t, "struct 1", with(api.Inst{Op: api.OpMake, P: 66, N: 1}, pointer(66)))
	for _, x := range []int{math.MinInt, -1, 0, 65, 67, 68, math.MaxInt} {
		// What is passed on has the same fields, so that only these are wrong.
		bad(t, x, codeOf(blockOf(jump(1)), blockOf(jump(1, 0), integer(x))))
		bad(t, x, with(constant(x, 0), integer(x)))
		if x != 65 {
			bad(t, x, codeOf(blockOf(jump(1)), blockOf(jump(1, 0), pointer(x))))
			bad(t, x, with(api.Inst{Op: api.OpMake, P: x, N: uint64(x - 65)}, pointer(x)))
		}
	}
	for _, param := range []api.Inst{{Op: api.OpParam, W: 8, P: 8}, {Op: api.OpParam, W: 8, P: 65}, {Op: api.OpParam, W: 8, A: 1}, {Op: api.OpParam, W: 8, B: 1}, {Op: api.OpParam, W: 8, C: 1}, {Op: api.OpParam, W: 8, N: 1}, {Op: api.OpParam, W: 8, At: -1}, {Op: api.OpParam, W: 8, At: 4001}, {Op: api.OpParam, W: -1, P: 8}} {
		bad(t, param, with(constant(8, 0), param))
		bad(t, param, codeOf(blockOf(jump(1, 0, 0), constant(8, 0)), blockOf(branchWith(3, 1, []int{2, 1}, 1, []int{1, 2}), param, param, constant(1, 1))))
	}
	// only at the beginning of a block, and not of the block 0
	bad(t, "block 0", codeOf(blockOf(accept(), integer(8))))
	bad(t, "block 0", codeOf(blockOf(accept(), length(), integer(8))))
	bad(t, "block 0", codeOf(blockOf(jump(1), pointer(65), length()), blockOf(accept())))
	two := func(first ...api.Inst) api.Code {
		return codeOf(blockOf(jump(1, slices.Repeat([]int{0}, 2)...), length()), blockOf(accept(), first...))
	}
	good(t, "first", two(integer(8), integer(8)))
	good(t, "first", two(integer(8), integer(8), length(), emit(1, 0)))
	for _, n := range []api.Inst{length(), constant(8, 0), emit(0, 0), unary(api.OpNot, 8, 0, 0), {Op: api.OpMake, P: 65}} {
		bad(t, n, two(n, integer(8), integer(8)))
		bad(t, n, two(integer(8), n, integer(8)))
		bad(t, n, codeOf(blockOf(jump(1, 0), length()), blockOf(accept(), integer(8), n, integer(8))))
		bad(t, n, codeOf(blockOf(jump(1), length()), blockOf(accept(), n, integer(8))))
	}
	// a parameter of one block behind the parameters of the one before
	good(t, "blocks", codeOf(blockOf(jump(1, 0), length()), blockOf(jump(2, 1), integer(8)), blockOf(accept(), integer(8))))
	good(t, "blocks", codeOf(blockOf(jump(1), length()), blockOf(jump(2, 1), length()), blockOf(accept(), integer(8))))
}
