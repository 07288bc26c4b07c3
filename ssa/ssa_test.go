package ssa_test

import (
	"fmt"
	"math"
	"slices"
	"strings"
	"testing"

	"formfinder/api"
	"formfinder/ssa"
)

// expect fails the test unless all functions say about code what the model says, and returns whether it is valid.
func expect(t *testing.T, c api.Code) bool {
	t.Helper()
	want := valid(c)
	if got := ssa.Valid(c); got != want {
		t.Fatalf("%+v\nis valid: %v; want %v", c, got, want)
	}
	gotOrder, e1 := ssa.Order(c)
	gotPreds, e2 := ssa.Preds(c)
	gotUses, e3 := ssa.Uses(c)
	if !want {
		if e1 != api.ErrArg || e2 != api.ErrArg || e3 != api.ErrArg || len(gotOrder) > 0 || len(gotPreds) > 0 || len(gotUses) > 0 {
			t.Fatalf("%+v\nis not valid: %v %d, %v %d, %v %d", c, gotOrder, e1, gotPreds, e2, gotUses, e3)
		}
		return false
	}
	if e1 != api.OK || e2 != api.OK || e3 != api.OK {
		t.Fatalf("%+v\nis valid; errors %d, %d, %d", c, e1, e2, e3)
	}
	if !slices.Equal(gotOrder, order(c)) || !slices.EqualFunc(gotPreds, preds(c), slices.Equal) || !slices.Equal(gotUses, uses(c)) {
		t.Fatalf("%+v\n%v, %v, %v; want %v, %v, %v", c, gotOrder, gotPreds, gotUses, order(c), preds(c), uses(c))
	}
	return true
}

// good fails the test unless code is valid, by the model, too.
func good(t *testing.T, what any, c api.Code) {
	t.Helper()
	if !expect(t, c) {
		t.Errorf("%v: %+v\nis valid", what, c)
	}
}

// bad fails the test unless code is not valid, by the model, too.
func bad(t *testing.T, what any, c api.Code) {
	t.Helper()
	if expect(t, c) {
		t.Errorf("%v: %+v\nis not valid", what, c)
	}
}

// results fails the test unless the functions return this.
func results(t *testing.T, c api.Code, order []int, preds [][]int, uses []int) {
	t.Helper()
	good(t, "results", c)
	gotOrder, _ := ssa.Order(c)
	gotPreds, _ := ssa.Preds(c)
	gotUses, _ := ssa.Uses(c)
	if !slices.Equal(gotOrder, order) || !slices.EqualFunc(gotPreds, preds, slices.Equal) || !slices.Equal(gotUses, uses) {
		t.Errorf("%+v\n%v, %v, %v; want %v, %v, %v", c, gotOrder, gotPreds, gotUses, order, preds, uses)
	}
}

// chapter is the code of the chapter's example.
func chapter() api.Code {
	return codeOf(
		blockOf(branch(2, 1, 2), length(), constant(8, 3), binary(api.OpLt, 1, 0, 1)),
		blockOf(accept()),
		blockOf(reject(5)),
	)
}

// P6.1: the example of the chapter.
func TestExample(t *testing.T) {
	results(t, chapter(), []int{0, 2, 1}, [][]int{{}, {0}, {0}}, []int{1, 1, 1})
	bad(t, "width 2", changed(chapter(), func(c *api.Code) { c.Insts[2].W = 2 }))
}

// lowered is the code of the example of layer 7.
func lowered() api.Code {
	return codeOf(
		blockOf(branchWith(3, 1, nil, 2, []int{1}), constant(8, 0), api.Inst{Op: api.OpByte, W: 8, A: 0}, constant(8, 1), binary(api.OpEq, 1, 1, 2)),
		blockOf(jump(2, 4), constant(8, 2)),
		blockOf(accept(), integer(8), emit(5, 0)),
	)
}

// loop is code with a loop: it counts the bytes before the first one that is 0, and has an array.
func loop() api.Code {
	return codeOf(
		blockOf(jump(1, 0, 1), constant(8, 0), api.Inst{Op: api.OpNew, P: 8, A: 0, N: 8}),
		blockOf(branch(5, 2, 3), integer(8), pointer(8), api.Inst{Op: api.OpByte, W: 8, A: 2}, binary(api.OpLt, 1, 0, 4)),
		blockOf(jump(1, 7, 3), constant(8, 1), binary(api.OpAdd, 8, 2, 6)),
		blockOf(accept(), emit(2, 1), api.Inst{Op: api.OpLoad, W: 8, A: 3, B: 2}, api.Inst{Op: api.OpFree, A: 3}),
	)
}

// P6.1, F2, F3, F4: results that are written out.
func TestResults(t *testing.T) {
	results(t, codeOf(blockOf(accept())), []int{0}, [][]int{{}}, nil)
	results(t, lowered(), []int{0, 1, 2}, [][]int{{}, {0}, {0, 1}}, []int{1, 2, 1, 1, 1, 1, 0})
	results(t, loop(), []int{0, 1, 3, 2}, [][]int{{}, {0, 2}, {1}, {1}}, []int{3, 1, 4, 3, 1, 1, 1, 1, 0, 0, 0})

	condition := constant(1, 0)
	// both sides lead to one block
	results(t, codeOf(blockOf(branchWith(0, 1, []int{0}, 1, []int{0}), condition), blockOf(accept(), integer(1))), []int{0, 1}, [][]int{{}, {0}}, []int{3, 0})
	// a diamond, and one whose numbers go the other way
	results(t, codeOf(blockOf(branch(0, 1, 2), condition), blockOf(jump(3)), blockOf(jump(3)), blockOf(accept())), []int{0, 2, 1, 3}, [][]int{{}, {0}, {0}, {1, 2}}, []int{1})
	results(t, codeOf(blockOf(branch(0, 3, 2), condition), blockOf(accept()), blockOf(jump(1)), blockOf(jump(1))), []int{0, 2, 3, 1}, [][]int{{}, {2, 3}, {0}, {0}}, []int{1})
	// a chain that jumps to and fro
	results(t, codeOf(blockOf(jump(3)), blockOf(accept()), blockOf(jump(1)), blockOf(jump(2))), []int{0, 3, 2, 1}, [][]int{{}, {2}, {3}, {0}}, nil)
	// a loop without an exit, and one with a header that leads to itself
	results(t, codeOf(blockOf(jump(1)), blockOf(jump(1))), []int{0, 1}, [][]int{{}, {0, 1}}, nil)
	results(t, codeOf(blockOf(jump(1), condition), blockOf(branch(0, 1, 2)), blockOf(reject(0))), []int{0, 1, 2}, [][]int{{}, {0, 1}, {1}}, []int{1})
	results(t, codeOf(blockOf(jump(1), condition), blockOf(branch(0, 2, 1)), blockOf(reject(255))), []int{0, 1, 2}, [][]int{{}, {0, 1}, {1}}, []int{1})
	// a loop that can be entered at two blocks
	results(t, codeOf(blockOf(branch(0, 1, 2), condition), blockOf(jump(2)), blockOf(branch(0, 1, 3)), blockOf(accept())), []int{0, 1, 2, 3}, [][]int{{}, {0, 2}, {0, 1}, {2}}, []int{2})
	results(t, codeOf(blockOf(branch(0, 2, 1), condition), blockOf(jump(2)), blockOf(branch(0, 3, 1)), blockOf(accept())), []int{0, 2, 1, 3}, [][]int{{}, {0, 2}, {0, 1}, {2}}, []int{2})
	// loops within each other
	results(t, codeOf(blockOf(jump(1), condition), blockOf(branch(0, 2, 5)), blockOf(branch(0, 3, 4)), blockOf(jump(2)), blockOf(jump(1)), blockOf(accept())), []int{0, 1, 5, 2, 4, 3}, [][]int{{}, {0, 4}, {1, 3}, {2}, {2}, {1}}, []int{2})
}

// P6.1, F4: what is 0 is a value only where the tables say so.
func TestUses(t *testing.T) {
	c := codeOf(
		blockOf(branchWith(0, 1, []int{1, 1}, 1, []int{1, 2}), constant(1, 1), length(), binary(api.OpAdd, 8, 1, 1), api.Inst{Op: api.OpMake, P: 65}, api.Inst{Op: api.OpMake, P: 66, N: 1}, api.Inst{Op: api.OpNot, W: 1, A: 0}),
		blockOf(jump(2), integer(8), integer(8), constant(8, 0), api.Inst{Op: api.OpPut, A: 3, B: 8, C: 6}, api.Inst{Op: api.OpLoad, W: 8, A: 3, B: 8}, api.Inst{Op: api.OpFree, A: 4}, emit(7, 0), emit(7, 1)),
		blockOf(accept(), length(), constant(64, 0), api.Inst{Op: api.OpPut, A: 4, B: 8, C: 15}),
	)
	results(t, c, []int{0, 1, 2}, [][]int{{}, {0}, {1}}, []int{2, 5, 1, 2, 2, 0, 1, 2, 3, 0, 0, 0, 0, 0, 0, 1, 0})
}

// P6.1, F1: rule 1.
func TestLists(t *testing.T) {
	with := func(structs [][]int, names []string) api.Code {
		return changed(codeOf(blockOf(accept())), func(c *api.Code) { c.Structs, c.Names = structs, names })
	}
	cells := func(many int) []int { return slices.Repeat([]int{1}, many) }
	good(t, "no lists", with(nil, nil))
	for many := range 12 {
		if c := with(slices.Repeat([][]int{{1, 64}}, many), nil); many <= 8 {
			good(t, many, c)
		} else {
			bad(t, many, c)
		}
	}
	for many := range 20 {
		for _, structs := range [][][]int{{cells(many)}, {{8}, cells(many), {8}}, {{8}, {8}, cells(many)}} {
			if c := with(structs, nil); 1 <= many && many <= 16 {
				good(t, many, c)
			} else {
				bad(t, many, c)
			}
		}
	}
	for _, w := range []int{math.MinInt, -1, 0, 65, 66, 128, math.MaxInt} {
		for _, structs := range [][][]int{{{w}}, {{8, w, 8}}, {{1}, {8, w}}, {{1}, {w}, {64}}} {
			bad(t, w, with(structs, nil))
		}
	}
	for w := 1; w <= 64; w++ {
		good(t, w, with([][]int{{8, w}, {w}}, nil))
	}
	bad(t, "no blocks", api.Code{})
	bad(t, "no blocks", api.Code{Blocks: []api.Block{}, Insts: []api.Inst{length()}})
}

// types are the words of all widths.
var types = func() []string {
	var l []string
	for w := 1; w <= 64; w++ {
		l = append(l, fmt.Sprint("u", w))
	}
	return l
}()

// P6.1, F1: the names of rule 1.
func TestNames(t *testing.T) {
	with := func(names ...string) api.Code {
		return changed(codeOf(blockOf(accept())), func(c *api.Code) { c.Names = names })
	}
	wrong := append(strings.Fields(keyWords), types...)
	wrong = append(wrong, "", " ", "A", "aB", "a b", "a_", "_a", "1", "1a", "é", "aé", "a\x00", "\x00", "a\n", " a", "a ", "a-b", "a.b", "u8 ", "abcdefghijklm", strings.Repeat("a", 100), strings.Repeat("ab1", 1000), "0u8", "if ", "If", "IN", "ß", "a\xff", "/a", ":", "a:", "a/", "`a", "{", "a`", "a{")
	for _, name := range wrong {
		bad(t, name, with(name))
		bad(t, name, with("a", name, "b"))
		bad(t, name, with("a", "b", name))
	}
	right := []string{"a", "z", "a0", "z9", "u", "u0", "u00", "u01", "u08", "u64a", "u65", "u66", "u99", "u100", "u640", "u065", "u8u8", "u1234567890", "u18446744073", "v8", "uu8", "au8", "abcdefghijkl", "a12345678901", "zzzzzzzzzzzz", "u00000000001"}
	for _, word := range strings.Fields(keyWords) {
		right = append(right, word+"1", "x"+word, word+word[:1], word[1:]+"z")
	}
	for _, word := range types {
		right = append(right, word+"x", "u0"+word[1:], "x"+word)
	}
	for _, name := range right {
		good(t, name, with(name))
		good(t, name, with("a3", name, "b4"))
	}
	for i := range 256 {
		expect(t, with(string([]byte{byte(i)})))
		for j := range 256 {
			expect(t, with(string([]byte{byte(i), byte(j)})))
		}
	}
}

// P6.1, F1: the number of names, and that all are different.
func TestManyNames(t *testing.T) {
	with := func(names []string) api.Code {
		return changed(codeOf(blockOf(accept())), func(c *api.Code) { c.Names = names })
	}
	var names []string
	for i := range 32 {
		names = append(names, fmt.Sprint("n", i))
		good(t, names, with(names))
	}
	bad(t, "33 names", with(append(slices.Clone(names), "m")))
	for i := range names {
		for j := range names {
			if i != j {
				l := slices.Clone(names)
				l[i] = l[j]
				bad(t, l, with(l))
			}
		}
	}
}

// P6.1, F1: as many blocks and instructions as there may be, and one more.
func TestLimits(t *testing.T) {
	chain := func(blocks, insts int) api.Code {
		var l []block
		for i := range blocks - 1 {
			l = append(l, blockOf(jump(i+1)))
		}
		l = append(l, blockOf(accept(), slices.Repeat([]api.Inst{length()}, insts)...))
		return codeOf(l...)
	}
	good(t, "2 blocks", chain(2, 3))
	for _, x := range []struct {
		blocks, insts int
		valid         bool
	}{{399, 0, true}, {400, 0, true}, {401, 0, false}, {402, 0, false}, {1000, 0, false}, {1, 2999, true}, {1, 3000, true}, {1, 3001, false}, {1, 3002, false}, {2, 10000, false}, {400, 3000, true}, {401, 3001, false}, {400, 3001, false}, {401, 3000, false}} {
		c := chain(x.blocks, x.insts)
		if got := ssa.Valid(c); got != x.valid {
			t.Errorf("%d blocks, %d instructions: %v", x.blocks, x.insts, got)
		}
		l, e := ssa.Order(c)
		if x.valid != (e == api.OK) || x.valid && (len(l) != x.blocks || l[x.blocks-1] != x.blocks-1) {
			t.Errorf("%d blocks, %d instructions: %v, error %d", x.blocks, x.insts, l, e)
		}
		many, e := ssa.Uses(c)
		if x.valid != (e == api.OK) || x.valid && len(many) != x.insts {
			t.Errorf("%d blocks, %d instructions: %v, error %d", x.blocks, x.insts, many, e)
		}
		before, e := ssa.Preds(c)
		if x.valid != (e == api.OK) || x.valid && (len(before) != x.blocks || x.blocks > 1 && before[x.blocks-1][0] != x.blocks-2) {
			t.Errorf("%d blocks, %d instructions: %v, error %d", x.blocks, x.insts, before, e)
		}
	}
}

// P6.1, F1: rule 2.
func TestBounds(t *testing.T) {
	bounds := func(insts int, l ...int) api.Code {
		var blocks []block
		for i := range len(l)/2 - 1 {
			blocks = append(blocks, blockOf(jump(i+1)))
		}
		c := codeOf(append(blocks, blockOf(accept()))...)
		c.Insts = slices.Repeat([]api.Inst{length()}, insts)
		for i := range c.Blocks {
			c.Blocks[i].From, c.Blocks[i].Until = l[2*i], l[2*i+1]
		}
		return c
	}
	for _, c := range []api.Code{bounds(0, 0, 0), bounds(3, 0, 3), bounds(3, 0, 0, 0, 3), bounds(3, 0, 3, 3, 3), bounds(3, 0, 1, 1, 1, 1, 3), bounds(3, 0, 1, 1, 2, 2, 3), bounds(0, 0, 0, 0, 0, 0, 0)} {
		good(t, "bounds", c)
	}
	for _, c := range []api.Code{
		bounds(3, 0, 2), bounds(3, 0, 4), bounds(3, 1, 3), bounds(3, -1, 3), bounds(3, 0, 0), bounds(0, 0, 1), bounds(0, 1, 1), bounds(0, -1, -1), bounds(0, 0, -1), bounds(1, 1, 0), bounds(3, 3, 0),
		bounds(3, 0, 1, 2, 3), bounds(3, 0, 2, 1, 3), bounds(3, 0, 3, 0, 3), bounds(3, 0, 3, 3, 2), bounds(3, 0, 4, 4, 3), bounds(3, 0, -1, -1, 3), bounds(3, 0, 2, 2, 2), bounds(3, 0, 2, 2, 4), bounds(3, 1, 2, 2, 3), bounds(3, 0, 1, 1, 4, 4, 3), bounds(3, 0, 2, 2, 1, 1, 3),
		bounds(3, 0, 3, 3, 6), bounds(3, 0, math.MaxInt), bounds(3, 0, math.MaxInt, math.MaxInt, 3), bounds(3, 0, math.MinInt, math.MinInt, 3), bounds(3, math.MinInt, 3), bounds(3, 0, 3, 3, math.MaxInt), bounds(3, 1, 2, 0, 1, 2, 3),
	} {
		bad(t, "bounds", c)
	}
}

// P6.1, F1: changes of one field of any part of code, by the model.
func TestRandomChanges(t *testing.T) {
	count := map[bool]int{}
	for i, c := range codes(1, 400) {
		good(t, i, c)
		for j, change := range changes(c) {
			if (i+j)%9 == 0 {
				count[expect(t, changed(c, change))]++
			}
		}
	}
	if count[true] < 3000 || count[false] < 30000 {
		t.Error("few changes of a sort:", count)
	}
}

// intsNear are integers that may be something else than the given one.
func intsNear(n int) []int {
	return []int{n - 1, n + 1, 0, 1, 2, 8, -n, 64, 65, 66, -1, math.MinInt, math.MaxInt}
}

// changes are changes of one field each, of all parts of code.
func changes(c api.Code) []func(c *api.Code) {
	var l []func(c *api.Code)
	ints := func(field func(c *api.Code) *int) {
		for _, n := range intsNear(*field(&c)) {
			l = append(l, func(c *api.Code) { *field(c) = n })
		}
	}
	for i, n := range c.Insts {
		ints(func(c *api.Code) *int { return &c.Insts[i].W })
		ints(func(c *api.Code) *int { return &c.Insts[i].P })
		ints(func(c *api.Code) *int { return &c.Insts[i].A })
		ints(func(c *api.Code) *int { return &c.Insts[i].B })
		ints(func(c *api.Code) *int { return &c.Insts[i].C })
		for _, at := range []int{-1, 0, 4000, 4001} {
			l = append(l, func(c *api.Code) { c.Insts[i].At = at })
		}
		for _, v := range []uint64{0, n.N + 1, n.N - 1, 2, 8, 64, 65, 1 << 63, math.MaxUint64} {
			l = append(l, func(c *api.Code) { c.Insts[i].N = v })
		}
		for op := -1; op <= 38; op++ {
			l = append(l, func(c *api.Code) { c.Insts[i].Op = op })
		}
	}
	for i := range c.Blocks {
		ints(func(c *api.Code) *int { return &c.Blocks[i].From })
		ints(func(c *api.Code) *int { return &c.Blocks[i].Until })
		ints(func(c *api.Code) *int { return &c.Blocks[i].End.Kind })
		ints(func(c *api.Code) *int { return &c.Blocks[i].End.A })
		ints(func(c *api.Code) *int { return &c.Blocks[i].End.To })
		ints(func(c *api.Code) *int { return &c.Blocks[i].End.Else })
		ints(func(c *api.Code) *int { return &c.Blocks[i].End.N })
		for _, n := range []int{-1, 0, 4000, 4001} {
			l = append(l, func(c *api.Code) { c.Blocks[i].End.At = n })
		}
		lists := []func(c *api.Code) *[]int{func(c *api.Code) *[]int { return &c.Blocks[i].End.ToArgs }, func(c *api.Code) *[]int { return &c.Blocks[i].End.ElseArgs }}
		for _, list := range lists {
			l = append(l, func(c *api.Code) { *list(c) = append(*list(c), 0) })
			for j := range *list(&c) {
				l = append(l, func(c *api.Code) { *list(c) = (*list(c))[:j] })
				ints(func(c *api.Code) *int { return &(*list(c))[j] })
			}
		}
	}
	for i := range c.Structs {
		l = append(l, func(c *api.Code) { c.Structs[i] = nil }, func(c *api.Code) { c.Structs = c.Structs[:i] })
		for j := range c.Structs[i] {
			ints(func(c *api.Code) *int { return &c.Structs[i][j] })
		}
	}
	for i := range c.Names {
		l = append(l, func(c *api.Code) { c.Names[i] = "in" }, func(c *api.Code) { c.Names = c.Names[:i] }, func(c *api.Code) { c.Names[i] = "z" })
	}
	return l
}

// P1: numbers of all sorts everywhere.
func TestExtremes(t *testing.T) {
	extremes := []int{math.MinInt, -1, 0, 64, 65, math.MaxInt}
	for _, x := range extremes {
		for op := -1; op < 40; op++ {
			for _, n := range []uint64{0, 1 << 63, math.MaxUint64} {
				c := codeOf(blockOf(accept(), length(), api.Inst{Op: op, W: x, P: x, A: x, B: x, C: x, N: n}, api.Inst{Op: api.OpLoad, W: 8, A: 1, B: 0}, api.Inst{Op: api.OpPut, A: 1, B: 0, C: 0}, api.Inst{Op: api.OpFree, A: 1}, api.Inst{Op: api.OpJoin, W: -2, A: 1, B: 1}, api.Inst{Op: api.OpPart, W: 1, A: 1, N: n}))
				bad(t, c, c)
			}
		}
		for _, y := range extremes {
			for kind := -1; kind < 6; kind++ {
				expect(t, codeOf(blockOf(api.End{Kind: kind, A: x, To: y, Else: y, N: x, At: x}, length()), blockOf(accept())))
				expect(t, codeOf(blockOf(api.End{Kind: kind, To: 1, Else: 1, ToArgs: []int{x}, ElseArgs: []int{y}}, constant(1, 0)), blockOf(accept(), integer(1))))
			}
		}
		bad(t, x, api.Code{Blocks: []api.Block{{From: x, Until: x + 1, End: api.End{Kind: x}}}})
		bad(t, x, api.Code{Structs: [][]int{{x, x}, nil}, Names: []string{""}, Blocks: make([]api.Block, 3), Insts: make([]api.Inst, 3)})
	}
	// kinds that are wrong where they are used first, and not where they are made
	for _, p := range []int{math.MinInt, -1, 0, 67, 68, 1000, math.MaxInt} {
		c := codeOf(blockOf(jump(2)), blockOf(accept(), api.Inst{Op: api.OpLoad, W: 8, A: 3, B: 2}, api.Inst{Op: api.OpFree, A: 3}), blockOf(jump(1), constant(8, 0), api.Inst{Op: api.OpMake, P: p, N: 1}))
		bad(t, p, c)
	}
}

// P1: lists that are much longer than they may be.
func TestLongLists(t *testing.T) {
	const many = 200000
	long := []api.Code{
		{Blocks: make([]api.Block, many)}, {Insts: make([]api.Inst, many), Blocks: []api.Block{{Until: many, End: accept()}}}, {Structs: make([][]int, many), Blocks: []api.Block{{End: accept()}}}, {Structs: [][]int{make([]int, many)}, Blocks: []api.Block{{End: accept()}}},
		{Names: make([]string, many), Blocks: []api.Block{{End: accept()}}}, {Names: []string{strings.Repeat("a", many)}, Blocks: []api.Block{{End: accept()}}},
		codeOf(blockOf(jump(1, make([]int, many)...), length()), blockOf(accept(), integer(8))), codeOf(blockOf(accept()), blockOf(api.End{Kind: api.EndReject, ElseArgs: make([]int, many)})),
		codeOf(slices.Repeat([]block{blockOf(jump(1))}, many)...),
	}
	for i, c := range long {
		if ssa.Valid(c) {
			t.Errorf("code %d is not valid", i)
		}
		_, e1 := ssa.Order(c)
		_, e2 := ssa.Preds(c)
		_, e3 := ssa.Uses(c)
		if e1 != api.ErrArg || e2 != api.ErrArg || e3 != api.ErrArg {
			t.Errorf("code %d: errors %d, %d, %d", i, e1, e2, e3)
		}
	}
}

// P1: as many blocks as there may be, with edges that lead far back and forth, and with as many values as can be passed on.
func TestLargeCode(t *testing.T) {
	for _, back := range []int{1, 2, 3, 50, 198} {
		var l []block
		for i := range 399 {
			to := max(1, i-back)
			if i%2 == 0 {
				l = append(l, blockOf(branch(0, i+1, to)))
			} else {
				l = append(l, blockOf(branch(0, to, i+1)))
			}
		}
		l[0].insts = append(l[0].insts, constant(1, 0))
		good(t, back, codeOf(append(l, blockOf(accept()))...))
	}
	// a chain that can be entered at both ends: no block but the block 0 dominates another one
	l := []block{blockOf(branch(0, 1, 399), constant(1, 0)), blockOf(jump(2), length())}
	for i := 2; i < 399; i++ {
		l = append(l, blockOf(branch(0, i+1, i-1)))
	}
	l = append(l, blockOf(jump(398), length()))
	good(t, "chain", codeOf(l...))
	for _, i := range []int{2, 3, 200, 397, 398} {
		used := slices.Clone(l)
		used[i].insts = []api.Inst{emit(1, 0)}
		bad(t, i, codeOf(used...))
		used[i].insts = []api.Inst{emit(3, 0)}
		bad(t, i, codeOf(used...))
	}
	// a block with many parameters, to which all lead
	args := make([]int, 2000)
	l = []block{blockOf(branchWith(0, 1, nil, 399, args), constant(1, 0))}
	for i := 1; i < 399; i++ {
		l = append(l, blockOf(branchWith(0, i+1, nil, 399, args)))
	}
	l[398].end = jump(399, args...)
	l = append(l, blockOf(accept(), slices.Repeat([]api.Inst{integer(1)}, 2000)...))
	c := codeOf(l...)
	many, e := ssa.Uses(c)
	if e != api.OK || len(many) != 2001 || many[0] != 399*2000+398 || many[1] != 0 || many[2000] != 0 {
		t.Errorf("%v, error %d", many, e)
	}
	last := c.Blocks[398].End.ToArgs
	c.Blocks[398].End.ToArgs = append(slices.Clone(last[:1999]), 5)
	if ssa.Valid(c) {
		t.Error("a parameter of the block behind is passed to it")
	}
}

// P1: arguments are not changed, and results share no memory.
func TestMemory(t *testing.T) {
	for _, c := range append(codes(2, 60), loop(), lowered()) {
		before := clone(c)
		firstOrder, _ := ssa.Order(c)
		firstPreds, _ := ssa.Preds(c)
		firstUses, _ := ssa.Uses(c)
		if fmt.Sprint(c) != fmt.Sprint(before) {
			t.Fatal("the argument was changed")
		}
		for i := range firstPreds {
			// What is added to a list changes no other one.
			l := append(firstPreds[i], -1, -1, -1, -1)
			if i+1 < len(firstPreds) && !slices.Equal(firstPreds[i+1], preds(c)[i+1]) {
				t.Fatal("two lists share memory:", l)
			}
		}
		for _, l := range append(firstPreds, firstOrder, firstUses) {
			for i := range l {
				l[i] = -7
			}
		}
		expect(t, c)
		if fmt.Sprint(c) != fmt.Sprint(before) {
			t.Fatal("a result shares memory with the argument")
		}
	}
}
