package flow_test

import (
	"fmt"
	"math"
	"math/rand"
	"reflect"
	"slices"
	"strings"
	"testing"

	"formfinder/api"
	"formfinder/flow"
	"formfinder/ssa"
)

// results fails the test unless the functions return of valid code what is wanted; meetings has the blocks at which branches meet, and -1 for each other block.
func results(t *testing.T, c api.Code, doms []int, loops []api.Loop, reducible bool, meetings []int) {
	t.Helper()
	isValid(t, c, true)
	gotDoms, e := flow.Doms(c)
	if e != api.OK || !slices.Equal(gotDoms, doms) {
		t.Fatalf("%s: dominators %v, error %d; want %v", wordsOf(c), gotDoms, e, doms)
	}
	want := api.OK
	if !reducible {
		loops, want = nil, api.ErrLoop
	}
	gotLoops, e := flow.Loops(c)
	if e != want || !slices.EqualFunc(gotLoops, loops, sameLoop) {
		t.Fatalf("%s: loops %v, error %d; want %v, error %d", wordsOf(c), gotLoops, e, loops, want)
	}
	for i := range c.Blocks {
		m, found, e := flow.Diamond(c, i)
		if e != api.OK || found != (meetings[i] >= 0) || m != max(0, meetings[i]) {
			t.Fatalf("%s: the branch of %d meets at %d: %v, error %d; want %d", wordsOf(c), i, m, found, e, meetings[i])
		}
	}
}

// expect fails the test unless the functions return of valid code what the model says.
func expect(t *testing.T, c api.Code) {
	t.Helper()
	isValid(t, c, true)
	l, reducible := loops(c)
	var meetings []int
	for i := range c.Blocks {
		m, found := meets(t, c, i)
		if !found {
			m = -1
		}
		meetings = append(meetings, m)
	}
	results(t, c, doms(t, c), l, reducible, meetings)
}

// refused fails the test unless code is not valid, and all functions say so.
func refused(t *testing.T, c api.Code) {
	t.Helper()
	isValid(t, c, false)
	if l, e := flow.Doms(c); e != api.ErrArg || len(l) > 0 {
		t.Errorf("%+v\nis not valid: dominators %v, error %d", c, l, e)
	}
	if l, e := flow.Loops(c); e != api.ErrArg || len(l) > 0 {
		t.Errorf("%+v\nis not valid: loops %v, error %d", c, l, e)
	}
	for _, block := range []int{math.MinInt, -1, 0, 1, 2, 3, len(c.Blocks) - 1, len(c.Blocks), math.MaxInt} {
		if m, found, e := flow.Diamond(c, block); e != api.ErrArg || found || m != 0 {
			t.Errorf("%+v\nis not valid: the branch of %d meets at %d: %v, error %d", c, block, m, found, e)
		}
	}
}

// loop is the loop of these blocks, of which the first one is its header.
func loop(blocks ...int) api.Loop {
	return api.Loop{Head: blocks[0], Blocks: slices.Sorted(slices.Values(blocks))}
}

func list[T any](l ...T) []T { return l }

// P8.1: the examples of the chapter.
func TestExamples(t *testing.T) {
	results(t, codeOf("1,2 3 3 4,5 3 -"), list(-1, 0, 0, 0, 3, 3), list(loop(3, 4)), true, list(3, -1, -1, -1, -1, -1))
}

// P8.1, H1
func TestDoms(t *testing.T) {
	for _, x := range []struct {
		words string
		want  []int
	}{
		{"-", list(-1)},
		{"!", list(-1)},
		{"1 -", list(-1, 0)},
		{"1 2 3 4 !", list(-1, 0, 1, 2, 3)},
		// numbers that go the other way
		{"3 - 1 2", list(-1, 2, 3, 0)},
		{"2 3 1 -", list(-1, 2, 0, 1)},
		{"3 2 4 1 -", list(-1, 3, 1, 0, 2)},
		// branches to one block
		{"1,1 2,2 -", list(-1, 0, 1)},
		// branches of which one side is empty, or none
		{"1,2 2 -", list(-1, 0, 0)},
		{"2,1 2 -", list(-1, 0, 0)},
		{"1,2 - 1", list(-1, 0, 0)},
		{"1 2,3 3 -", list(-1, 0, 1, 1)},
		{"4,2 - 1 - 1,3", list(-1, 0, 0, 4, 0)},
		// a side that does not go on
		{"1,2 3 ! -", list(-1, 0, 0, 1)},
		{"1,2 ! 3,4 4 -", list(-1, 0, 0, 2, 2)},
		// branches within branches
		{"1,2 3,4 5 5 5 -", list(-1, 0, 0, 1, 1, 0)},
		{"1,2 3,4 6 5 5 6 -", list(-1, 0, 0, 1, 1, 1, 0)},
		{"5,1 2 3,4 6 6 6 -", list(-1, 0, 1, 2, 2, 0, 0)},
		// sides that are entered from elsewhere, too
		{"1,2 3,4 4,5 6 6 6 -", list(-1, 0, 0, 1, 0, 2, 0)},
		{"1,5 2,3 4 4,5 - 4", list(-1, 0, 1, 1, 0, 0)},
		// what dominates a block is far from it
		{"1,2 3,4 4 5 5,6 6 7 -", list(-1, 0, 0, 1, 0, 0, 0, 6)},
		// loops
		{"1 1", list(-1, 0)},
		{"1 1,2 -", list(-1, 0, 1)},
		{"1 2,3 1 -", list(-1, 0, 1, 1)},
		{"1 2,5 3,4 2 1 -", list(-1, 0, 1, 2, 2, 1)},
		{"2 - 3,1 4,5 2 2", list(-1, 2, 0, 2, 3, 3)},
		{"1 2,3 1,4 4,1 5,6 1 -", list(-1, 0, 1, 1, 1, 4, 4)},
		{"1 2,4 3,4 1,4 -", list(-1, 0, 1, 2, 1)},
		// what is not reducible
		{"1,2 2 1", list(-1, 0, 0)},
		{"1,2 2,3 1,4 - 3", list(-1, 0, 0, 0, 2)},
		{"1,2 3 3,4 2,5 - -", list(-1, 0, 0, 0, 2, 3)},
		{"1 2,3 3,4 2,5 - 4", list(-1, 0, 1, 1, 1, 3)},
	} {
		c := codeOf(x.words)
		if got, e := flow.Doms(c); e != api.OK || !slices.Equal(got, x.want) {
			t.Errorf("%s: %v, error %d; want %v", x.words, got, e, x.want)
		}
		expect(t, c)
	}
}

// P8.1, H2
func TestLoops(t *testing.T) {
	for _, x := range []struct {
		words string
		want  []api.Loop
	}{
		{"-", nil},
		{"1 -", nil},
		{"1,1 -", nil},
		{"1,2 3 3 -", nil},
		// to lesser numbers, but not back
		{"3 - 1 2", nil},
		{"4,3 - 1 2,1 2,3", nil},
		// loops of one block
		{"1 1", list(loop(1))},
		{"1 1,1", list(loop(1))},
		{"1 1,2 -", list(loop(1))},
		{"1 2,1 -", list(loop(1))},
		{"2,1 - 1,2", list(loop(2))},
		{"1,2 1,3 2,3 -", list(loop(1), loop(2))},
		// loops of more
		{"1 2,3 1 -", list(loop(1, 2))},
		{"1 3,2 - 1", list(loop(1, 3))},
		{"1 2,2 1,1", list(loop(1, 2))},
		{"3 2 3 1,4 -", list(loop(3, 1, 2))},
		{"3 3 1 2,4 -", list(loop(3, 1, 2))},
		{"1 2 3,4 1 -", list(loop(1, 2, 3))},
		{"1 2,3 4 4 5,1 -", list(loop(1, 2, 3, 4))},
		// loops that nothing leaves
		{"1 2 3 1", list(loop(1, 2, 3))},
		{"1,4 2 3 1 -", list(loop(1, 2, 3))},
		// what leaves a loop is not in it
		{"1 2,3 4,5 - 1 -", list(loop(1, 2, 4))},
		{"1 2,3 4,5 - 1,5 6 -", list(loop(1, 2, 4))},
		{"1 2,5 3,4 1 5 6 -", list(loop(1, 2, 3))},
		// several back edges to one header
		{"1 2,3 1 1", list(loop(1, 2, 3))},
		{"1 2,3 1,4 - 1", list(loop(1, 2, 4))},
		{"1 2,4 3,1 1,1 -", list(loop(1, 2, 3))},
		{"1 1,2 1,3 -", list(loop(1, 2))},
		// loops within loops
		{"1 2,1 2", list(loop(1), loop(2))},
		{"2 2 1,2", list(loop(2, 1))},
		{"1 2 1,2", list(loop(1, 2), loop(2))},
		{"1 2,3 2,1 -", list(loop(1, 2), loop(2))},
		{"1 2 3 1,2", list(loop(1, 2, 3), loop(2, 3))},
		{"1 2,5 3,4 2 1 -", list(loop(1, 2, 3, 4), loop(2, 3))},
		{"5 1,2 5 2,4 1 3,6 -", list(loop(1), loop(5, 1, 2, 3, 4))},
		{"1 2 3 4 5,3 6,2 1,7 -", list(loop(1, 2, 3, 4, 5, 6), loop(2, 3, 4, 5), loop(3, 4))},
		{"1 2,6 3,4 2 5,1 4 -", list(loop(1, 2, 3, 4, 5), loop(2, 3), loop(4, 5))},
		// the inner one goes on with the outer one
		{"1 2,5 3,1 4,2 1 -", list(loop(1, 2, 3, 4), loop(2, 3))},
		// one after the other, and beside each other
		{"1 2,3 1 4,5 3 -", list(loop(1, 2), loop(3, 4))},
		{"3 2,4 1 3,1 -", list(loop(1, 2), loop(3))},
		{"1,2 3,5 4,5 1 2 -", list(loop(1, 3), loop(2, 4))},
	} {
		c := codeOf(x.words)
		if got, e := flow.Loops(c); e != api.OK || !slices.EqualFunc(got, x.want, sameLoop) {
			t.Errorf("%s: %v, error %d; want %v", x.words, got, e, x.want)
		}
		expect(t, c)
	}
}

// P8.1, H2: code that is not reducible.
func TestNotReducible(t *testing.T) {
	for _, words := range []string{
		"1,2 2 1",
		"2,1 2 1",
		"1,2 2,3 1 -",
		"1,2 2 1,3 -",
		"1 2,3 3 2",
		"1,2 3 1 4 2",
		"1,3 2 3 4 1,5 -",
		// one with two blocks within a loop, or before or behind one
		"1 2,3 3 2,1",
		"1 2,3 3,4 2 1",
		"1 1,2 3,4 4 3",
		"1,2 2 1,3 3,4 -",
		// one with a loop within it, and with a branch to one block
		"1,2 1,2 1",
		"1,2 2,2 1,1",
		// three blocks, two of which are entered
		"1,2 2 3 1",
		"1,3 2 3 1",
		"2,3 2 3 1",
		"1,2 3 3 1,2",
		// the header that dominates all is not of a back edge
		"1 2,3 4 4 5,6 2 3",
	} {
		c := codeOf(words)
		isValid(t, c, true)
		if got, e := flow.Loops(c); e != api.ErrLoop || len(got) > 0 {
			t.Errorf("%s: %v, error %d; want error %d", words, got, e, api.ErrLoop)
		}
		expect(t, c)
	}
}

// P8.1, H3
func TestDiamond(t *testing.T) {
	for _, x := range []struct {
		words string
		block int
		want  int // -1: it does not meet
	}{
		// both sides are not the meeting block
		{"1,2 3 3 -", 0, 3},
		{"2,1 3 3 -", 0, 3},
		{"3,2 - 1 1", 0, 1},
		{"1 3,4 - 2 2", 1, 2},
		{"1,2 3 3 3,4 -", 0, 3},
		{"1,2 3 3 3", 0, 3},
		{"1 2,3 4 4 1,5 -", 1, 4},
		// one side is
		{"1,2 2 -", 0, 2},
		{"2,1 2 -", 0, 2},
		{"1,2 - 1", 0, 1},
		{"2,1 - 1", 0, 1},
		{"1,2 2 2", 0, 2},
		{"1,2 1 1", 0, 1},
		{"1 2,3 3 1,4 -", 1, 3},
		// a meeting block that others lead to, too
		{"1,2 4 3,5 4 - 4", 2, 4},
		{"3,1 2,4 3 - 3", 1, 3},
		{"1,3 2,3 3 -", 1, 3},
		// no branch
		{"-", 0, -1},
		{"!", 0, -1},
		{"1 -", 0, -1},
		{"1 -", 1, -1},
		{"1 1", 0, -1},
		{"1 1", 1, -1},
		{"1 2 2", 1, -1},
		// sides that do not differ
		{"1,1 -", 0, -1},
		{"1,1 2 -", 0, -1},
		{"1 1,1", 1, -1},
		{"1 2,2 1", 1, -1},
		{"1,1 1", 0, -1},
		// a side that ends otherwise
		{"1,2 - -", 0, -1},
		{"1,2 ! -", 0, -1},
		{"1,2 3 - -", 0, -1},
		{"1,2 - 3 -", 0, -1},
		{"1,2 3,3 3 -", 0, -1},
		{"1,2 3 3,3 -", 0, -1},
		{"1,2 3,4 3 - -", 0, -1},
		{"1,2 2,2 -", 0, -1},
		{"1,2 2,3 - -", 0, -1},
		{"1,2 3 3,4 - -", 0, -1},
		// sides that jump to different blocks
		{"1,2 3 4 - -", 0, -1},
		{"1,2 3 4 4 -", 0, -1},
		{"1,2 3 4 - 3", 0, -1},
		// a side that is entered from elsewhere, too
		{"3,4 5 5 1,2 1 -", 3, -1},
		{"3,4 5 5 1,2 2 -", 3, -1},
		{"3,4 5 5 2,1 1 -", 3, -1},
		{"1,2 2,3 3 -", 1, -1},
		{"3,1 2 - 1,2", 3, -1},
		{"3,1 2 - 2,1", 3, -1},
		{"1,2 3 3 4,1 -", 0, -1},
		{"1,2 3 3 2,4 -", 0, -1},
		{"1,2 3 1 -", 0, 1},
		{"1,2 2 1", 0, -1},
		{"1,2 1 2", 0, -1},
		{"1,2 1 1", 0, 1},
		{"1,2 1 -", 0, -1},
		// the block with the branch itself
		{"1 2,3 1 -", 1, -1},
		{"1 2,3 1 1", 1, -1},
		{"1 3,2 1 1", 1, -1},
		{"1 1,2 -", 1, -1},
		{"1 1,2 1", 1, -1},
		{"1 2,1 1", 1, -1},
		{"1 2,1 2", 1, -1},
		{"1 2,1 3 -", 1, -1},
		{"1 1,2 3 1", 1, -1},
		// sides that are longer
		{"1,2 3 4 4 -", 0, -1},
		{"1,2 3 4 5 5 -", 0, -1},
		{"1,3 2 3 -", 0, -1},
	} {
		c := codeOf(x.words)
		if got, found, e := flow.Diamond(c, x.block); e != api.OK || found != (x.want >= 0) || got != max(0, x.want) {
			t.Errorf("%s: the branch of %d meets at %d: %v, error %d; want %d", x.words, x.block, got, found, e, x.want)
		}
		expect(t, c)
	}
}

// P8.1, H3: there is no such block.
func TestNoBlock(t *testing.T) {
	for _, c := range append(codes(1, 40), fullCode(t), codeOf("1,2 3 3 -"), codeOf("1,2 2 1")) {
		for _, block := range []int{math.MinInt, math.MinInt + 1, -400, -1, len(c.Blocks), len(c.Blocks) + 1, 400, math.MaxInt} {
			if m, found, e := flow.Diamond(c, block); e != api.ErrArg || found || m != 0 {
				t.Errorf("%s: the branch of %d meets at %d: %v, error %d", wordsOf(c), block, m, found, e)
			}
		}
	}
}

// P8.1: all code with up to four blocks.
func TestSmall(t *testing.T) {
	for blocks := 1; blocks <= 4; blocks++ {
		ends := []string{"-"}
		for to := 1; to < blocks; to++ {
			ends = append(ends, fmt.Sprint(to))
			for other := 1; other < blocks; other++ {
				ends = append(ends, fmt.Sprint(to, ",", other))
			}
		}
		var extend func(many int, words string)
		extend = func(many int, words string) {
			if many == blocks {
				if c := codeOf(words); ssa.Valid(c) {
					expect(t, c)
				}
				return
			}
			for _, end := range ends {
				extend(many+1, words+" "+end)
			}
		}
		extend(0, "")
	}
}

// P8.1: random code.
func TestRandom(t *testing.T) {
	for _, c := range codes(2, 6000) {
		expect(t, c)
	}
	for _, source := range sources(3, 400) {
		if c := compile(t, source); len(c.Blocks) <= 20 {
			expect(t, c)
		}
	}
}

// P8.1: code of sources.
func TestSources(t *testing.T) {
	for _, x := range []struct {
		source   string
		doms     []int
		loops    []api.Loop
		meetings []int
	}{
		{"parse { accept; }", list(-1), nil, list(-1)},
		{"parse { let x = in[0:u8]; if (x == 1:u8) { x = 2:u8; } emit a = x; accept; }", list(-1, 0, 0), nil, list(2, -1, -1)},
		{"parse { if (len == 1:u8) { accept; } reject 1; }", list(-1, 0, 0), nil, list(-1, -1, -1)},
		{"parse { let x = 0:u8; if (len == 1:u8) { x = 1:u8; } else { x = 2:u8; } emit a = x; }", list(-1, 0, 0, 0), nil, list(3, -1, -1, -1)},
		{"parse { let i = 0:u8; while (i < len) { i = (i + 1:u8); } accept; }", list(-1, 0, 1, 1), list(loop(1, 2)), list(-1, -1, -1, -1)},
		{"parse { while (len == 1:u8) { accept; } accept; }", list(-1, 0, 1, 1), nil, list(-1, -1, -1, -1)},
		{"parse { let i = 0:u8; while (i < len) { if (in[i] == 3:u8) { i = (i + 2:u8); } else { i = (i + 1:u8); } } accept; }", list(-1, 0, 1, 2, 2, 2, 1), list(loop(1, 2, 3, 4, 5)), list(-1, -1, 5, -1, -1, -1, -1)},
		{"parse { let i = 0:u8; let j = 0:u8; while (i < len) { j = i; while (j < len) { if (in[j] == 3:u8) { reject 2; } j = (j + 1:u8); } i = (i + 1:u8); } accept; }", list(-1, 0, 1, 2, 3, 4, 4, 3, 1), list(loop(1, 2, 3, 4, 6, 7), loop(3, 4, 6)), slices.Repeat([]int{-1}, 9)},
	} {
		c := compile(t, x.source)
		results(t, c, x.doms, x.loops, true, x.meetings)
		expect(t, c)
	}
	expect(t, fullCode(t))
}

// invalid is code that is not valid, for all sorts of reasons.
func invalid(t *testing.T) []api.Code {
	l := []api.Code{{}, {Insts: []api.Inst{{Op: api.OpLen, W: 8}}}, {Blocks: []api.Block{{}}}, {Blocks: make([]api.Block, 500)}}
	for _, words := range []string{
		"- -", "1 - -", "1,1 - -", "1 - 2", "1 - 3 2", "- 1", "1 - 1", // not all blocks can be reached
		"0", "0,0", "1 0", "1,0 -", "0,1 -", "1 1,0", "1 0,1", // the block 0 is a successor
		"1", "2 -", "1,2 -", "2,1 -", "1 2", "-1", "1,-1 -", "400 -", "9223372036854775807 -", "-9223372036854775808 -", // there is no such block
		"1,2 2 1 -", "1,2 2,0 1", "1,2 2,3 1", // and it is not reducible
	} {
		l = append(l, codeOf(words))
	}
	// too many blocks
	var many strings.Builder
	for i := range 400 {
		fmt.Fprint(&many, i+1, " ")
	}
	l = append(l, codeOf(many.String()+"-"))
	for _, words := range []string{"1,2 3 3 -", "1,2 2 1", "1 2,3 1 -"} {
		for _, change := range []func(c *api.Code){
			func(c *api.Code) { c.Insts[0].W = 2 },
			func(c *api.Code) { c.Insts[0].N = 2 },
			func(c *api.Code) { c.Insts[0].Op = api.OpIte },
			func(c *api.Code) { c.Insts[0].At = 4001 },
			func(c *api.Code) { c.Insts = nil },
			func(c *api.Code) { c.Blocks[1].From = 2 },
			func(c *api.Code) { c.Blocks[2].Until = 0 },
			func(c *api.Code) { c.Blocks[1].End.At = -1 },
			func(c *api.Code) { c.Blocks[0].End.N = 1 },
			func(c *api.Code) { c.Blocks[0].End.Kind = 0 },
			func(c *api.Code) { c.Blocks[0].End.Kind = 5 },
			func(c *api.Code) { c.Blocks[1].End.A = 1 },
			func(c *api.Code) { c.Blocks[1].End.ToArgs = []int{0} },
			func(c *api.Code) { c.Names = []string{"u8"} },
			func(c *api.Code) { c.Structs = [][]int{{}} },
		} {
			c := codeOf(words)
			change(&c)
			l = append(l, c)
		}
	}
	full := fullCode(t)
	full.Insts[len(full.Insts)-1].A = len(full.Insts)
	return append(l, full)
}

// P8.1, P1: the errors, in their order.
func TestInvalid(t *testing.T) {
	for _, c := range invalid(t) {
		refused(t, c)
	}
}

// P1: whatever the code is, all functions return.
func TestDamaged(t *testing.T) {
	r := rand.New(rand.NewSource(4))
	numbers := []int{math.MinInt, -1, 0, 1, 2, 3, 4, 5, 399, 400, 1 << 32, math.MaxInt}
	count := map[bool]int{}
	for _, c := range codes(5, 3000) {
		for range 1 + r.Intn(2) {
			b := &c.Blocks[r.Intn(len(c.Blocks))]
			n := pick(r, numbers)
			*pick(r, []*int{&b.From, &b.Until, &b.End.Kind, &b.End.A, &b.End.To, &b.End.To, &b.End.Else, &b.End.Else, &b.End.N, &b.End.At}) = n
		}
		valid := ssa.Valid(c)
		if count[valid]++; valid {
			expect(t, c)
		} else {
			refused(t, c)
		}
	}
	if count[true] < 100 || count[false] < 100 {
		t.Error("few of a sort:", count)
	}
}

// The rules of the document: arguments are not modified, results are new memory, and calls do not influence each other.
func TestMemory(t *testing.T) {
	for _, c := range append(codes(6, 200), fullCode(t)) {
		before := clone(c)
		doms, _ := flow.Doms(c)
		loops, e := flow.Loops(c)
		for i := range doms {
			doms[i] = 77
		}
		for i, l := range loops {
			for j := range l.Blocks {
				l.Blocks[j] = -1 - i
			}
		}
		for _, l := range loops {
			_ = append(l.Blocks, 5)
		}
		for i, l := range loops {
			if slices.ContainsFunc(l.Blocks, func(b int) bool { return b != -1-i }) {
				t.Fatalf("%s: the loop %d shares memory: %v", wordsOf(c), i, l)
			}
		}
		for i := range c.Blocks {
			flow.Diamond(c, i)
		}
		if !reflect.DeepEqual(c, before) {
			t.Fatalf("%+v\nis modified: %+v", before, c)
		}
		expect(t, c)
		if _, again := flow.Loops(c); again != e {
			t.Fatalf("%s: error %d, and then %d", wordsOf(c), e, again)
		}
	}
}

// clone is code that shares no memory with other code.
func clone(c api.Code) api.Code {
	var structs [][]int
	for _, s := range c.Structs {
		structs = append(structs, slices.Clone(s))
	}
	c.Structs, c.Names, c.Insts, c.Blocks = structs, slices.Clone(c.Names), slices.Clone(c.Insts), slices.Clone(c.Blocks)
	for i := range c.Blocks {
		e := &c.Blocks[i].End
		e.ToArgs, e.ElseArgs = slices.Clone(e.ToArgs), slices.Clone(e.ElseArgs)
	}
	return c
}
