package trace_test

import (
	"slices"
	"testing"

	"formfinder/api"
	"formfinder/machine"
	"formfinder/trace"
)

// expectReached checks what a run of so many steps reaches, and that it misses all else.
func expectReached(t *testing.T, c api.Code, input []byte, steps int, want ...api.Goal) {
	t.Helper()
	if got := reached(t, c, input, steps); !slices.Equal(got, want) {
		t.Errorf("%v on %v: %d steps: got %v, want %v", c, input, steps, got, want)
	}
	others := slices.DeleteFunc(goals(t, c), func(g api.Goal) bool { return slices.Contains(want, g) })
	if got := missed(t, c, [][]byte{input}, steps); !slices.Equal(got, others) {
		t.Errorf("%v on %v: %d steps: missed %v, want %v", c, input, steps, got, others)
	}
}

// P11.1: the examples of the chapter.
func TestExamples(t *testing.T) {
	c := codeOfSource(t, `parse { if (in[0:u8] == 7:u8) { accept; } reject 1; }`)
	read := slices.IndexFunc(c.Insts, func(i api.Inst) bool { return i.Op == api.OpByte })
	expectReached(t, c, nil, 20000, goal(api.GoalBlock, 0), fault(read, api.FaultShort))
	expectReached(t, c, []byte{7}, 20000, goal(api.GoalBlock, 0), goal(api.GoalBlock, 1), goal(api.GoalTo, 0))
	if end := c.Blocks[1].End.Kind; end != api.EndAccept {
		t.Error(end)
	}
	expectReached(t, c, []byte{8}, 20000, goal(api.GoalBlock, 0), goal(api.GoalBlock, 2), goal(api.GoalElse, 0), goal(api.GoalReject, 2))
	want := []api.Goal{
		goal(api.GoalBlock, 0), goal(api.GoalBlock, 1), goal(api.GoalBlock, 2),
		goal(api.GoalTo, 0), goal(api.GoalElse, 0), goal(api.GoalReject, 2), fault(read, api.FaultShort),
	}
	if got := goals(t, c); !slices.Equal(got, want) {
		t.Errorf("got %v, want %v", got, want)
	}
	if got := missed(t, c, [][]byte{nil, {7}}, 20000); !slices.Equal(got, []api.Goal{goal(api.GoalBlock, 2), goal(api.GoalElse, 0), goal(api.GoalReject, 2)}) {
		t.Error(got)
	}
	if got := missed(t, c, [][]byte{nil, {7}, {0, 9}}, 20000); len(got) != 0 {
		t.Error(got)
	}
}

// P11.1, K1: the goals of each instruction and of each end.
func TestGoals(t *testing.T) {
	all := codeOf(
		blockOf(jump(1),
			constant(8, 1), byteAt(0), length(), // 0 to 2
			array(8, 0), structure(1), // 3, 4
			load(8, 3, 0), put(3, 0, 1), free(3), emit(1, 0), // 5 to 8
			binary(api.OpDiv, 8, 0, 1), binary(api.OpEq, 1, 0, 1), // 9, 10
		),
		blockOf(branch(11, 2, 3), constant(1, 1)),                                  // 11
		blockOf(accept(), free(4)),                                                 // 12
		blockOf(branch(11, 4, 4), constant(8, 0), load(64, 4, 13), put(4, 13, 14)), // 13 to 15
		blockOf(reject(0)),
	)
	for _, x := range []struct {
		c    api.Code
		want []api.Goal
	}{
		{all, []api.Goal{
			goal(api.GoalBlock, 0), goal(api.GoalBlock, 1), goal(api.GoalBlock, 2), goal(api.GoalBlock, 3), goal(api.GoalBlock, 4),
			goal(api.GoalTo, 1), goal(api.GoalTo, 3), goal(api.GoalElse, 1), goal(api.GoalElse, 3),
			goal(api.GoalReject, 4),
			fault(1, api.FaultShort), fault(3, api.FaultSize), fault(4, api.FaultSize),
			fault(5, api.FaultOut), fault(5, api.FaultGone), fault(5, api.FaultRaw),
			fault(6, api.FaultOut), fault(6, api.FaultGone), fault(7, api.FaultGone), fault(8, api.FaultSize),
			fault(12, api.FaultGone),
			fault(14, api.FaultOut), fault(14, api.FaultGone), fault(14, api.FaultRaw),
			fault(15, api.FaultOut), fault(15, api.FaultGone),
		}},
		{codeOf(blockOf(accept())), []api.Goal{goal(api.GoalBlock, 0)}},
		{codeOf(blockOf(reject(255))), []api.Goal{goal(api.GoalBlock, 0), goal(api.GoalReject, 0)}},
		{codeOf(blockOf(jump(1)), blockOf(jump(1))), []api.Goal{goal(api.GoalBlock, 0), goal(api.GoalBlock, 1)}},
	} {
		if got := goals(t, x.c); !slices.Equal(got, x.want) {
			t.Errorf("%v: got %v, want %v", x.c, got, x.want)
		}
	}
}

// P11.1, K1: no other operator has a goal.
func TestGoalsOfOtherOperators(t *testing.T) {
	for _, c := range []api.Code{
		codeOf(blockOf(jump(1, 0, 1), constant(8, 1), array(8, 0)), blockOf(accept(), integer(8), pointer(8))),
		codeOf(blockOf(accept(), constant(8, 1), length(), api.Inst{Op: api.OpNot, W: 8}, api.Inst{Op: api.OpZext, W: 9}, api.Inst{Op: api.OpSext, W: 9}, api.Inst{Op: api.OpPart, W: 1}, binary(api.OpJoin, 16, 0, 1))),
		codeOf(blockOf(accept(), constant(8, 1), binary(api.OpAdd, 8, 0, 0), binary(api.OpSub, 8, 0, 0), binary(api.OpMul, 8, 0, 0), binary(api.OpDiv, 8, 0, 0), binary(api.OpRem, 8, 0, 0), binary(api.OpAnd, 8, 0, 0), binary(api.OpOr, 8, 0, 0), binary(api.OpXor, 8, 0, 0), binary(api.OpShl, 8, 0, 0), binary(api.OpShr, 8, 0, 0), binary(api.OpEq, 1, 0, 0), binary(api.OpLt, 1, 0, 0), binary(api.OpSlt, 1, 0, 0))),
	} {
		for _, g := range goals(t, c) {
			if g.Kind == api.GoalFault && g != fault(1, api.FaultSize) || g.Kind != api.GoalFault && g.Kind != api.GoalBlock {
				t.Errorf("%v: %v", c, g)
			}
		}
	}
}

// P11.1, K2: each fault, at the step of its instruction, and not before.
func TestFaults(t *testing.T) {
	for _, x := range []struct {
		insts []api.Inst
		code  int
	}{
		{[]api.Inst{constant(8, 2), byteAt(0)}, api.FaultShort},
		{[]api.Inst{constant(8, 17), array(8, 0)}, api.FaultSize},
		{[]api.Inst{structure(0), structure(0), structure(0), structure(0), structure(0), structure(0), structure(0), structure(0), structure(0)}, api.FaultSize},
		{append([]api.Inst{length()}, slices.Repeat([]api.Inst{emit(0, 1)}, 25)...), api.FaultSize},
		{[]api.Inst{constant(8, 2), array(8, 0), load(8, 1, 0)}, api.FaultOut},
		{[]api.Inst{constant(8, 2), array(8, 0), free(1), load(8, 1, 0)}, api.FaultGone},
		{[]api.Inst{constant(8, 2), array(8, 0), length(), constant(8, 1), load(8, 1, 3)}, api.FaultRaw},
		{[]api.Inst{constant(8, 2), array(8, 0), put(1, 0, 0)}, api.FaultOut},
		{[]api.Inst{constant(8, 2), array(8, 0), free(1), put(1, 0, 0)}, api.FaultGone},
		{[]api.Inst{constant(8, 2), array(8, 0), free(1), free(1)}, api.FaultGone},
	} {
		c := codeOf(blockOf(jump(1)), blockOf(reject(1), append(x.insts, length())...))
		last := len(x.insts) - 1
		expectReached(t, c, []byte{1, 2}, last+1, goal(api.GoalBlock, 0), goal(api.GoalBlock, 1))
		for _, steps := range []int{last + 2, last + 3, 100, 20000} {
			expectReached(t, c, []byte{1, 2}, steps, goal(api.GoalBlock, 0), goal(api.GoalBlock, 1), fault(last, x.code))
		}
	}
}

// P11.1, K2: what is reached after each number of steps.
func TestSteps(t *testing.T) {
	c := codeOf(
		blockOf(branch(1, 1, 2), length(), constant(1, 1)),
		blockOf(jump(3), length()),
		blockOf(accept()),
		blockOf(reject(4), length()),
	)
	first, one, three := goal(api.GoalBlock, 0), goal(api.GoalBlock, 1), goal(api.GoalBlock, 3)
	to := goal(api.GoalTo, 0)
	for steps := range 3 {
		expectReached(t, c, nil, steps, first)
	}
	expectReached(t, c, nil, 3, first, one, to)
	expectReached(t, c, nil, 4, first, one, to)
	expectReached(t, c, nil, 5, first, one, three, to)
	expectReached(t, c, nil, 6, first, one, three, to)
	expectReached(t, c, nil, 7, first, one, three, to, goal(api.GoalReject, 3))
	expectReached(t, c, nil, 20000, first, one, three, to, goal(api.GoalReject, 3))
}

// P11.1, K2: a branch to one block has two sides; a side is that of the condition before the step.
func TestSides(t *testing.T) {
	for _, bit := range []uint64{0, 1} {
		side := []int{api.GoalElse, api.GoalTo}[bit]
		c := codeOf(blockOf(branch(0, 1, 1), constant(1, bit)), blockOf(accept()))
		expectReached(t, c, nil, 100, goal(api.GoalBlock, 0), goal(api.GoalBlock, 1), goal(side, 0))

		// The step of the branch turns its own condition round.
		c = codeOf(
			blockOf(jump(1, 0, 1), constant(1, bit), constant(1, 1-bit)),
			blockOf(branchWith(2, 1, []int{3, 2}, 1, []int{3, 2}), integer(1), integer(1)),
		)
		blocks := []api.Goal{goal(api.GoalBlock, 0), goal(api.GoalBlock, 1)}
		expectReached(t, c, nil, 3, blocks...)
		expectReached(t, c, nil, 5, blocks...)
		expectReached(t, c, nil, 6, append(slices.Clone(blocks), goal(side, 1))...)
		expectReached(t, c, nil, 8, append(slices.Clone(blocks), goal(side, 1))...)
		expectReached(t, c, nil, 9, append(slices.Clone(blocks), goal(api.GoalTo, 1), goal(api.GoalElse, 1))...)
	}
}

// P11.1, K2: a goal that is reached often is there once.
func TestOften(t *testing.T) {
	c := codeOfSource(t, `parse { let i = 0:u8; while (i < 200:u8) { i = (i + 1:u8); if (i == in[0:u8]) { reject 2; } } accept; }`)
	for _, input := range [][]byte{{0}, {200}, {201}} {
		l := reached(t, c, input, 20000)
		if !slices.Equal(slices.Compact(slices.Clone(l)), l) || len(l) < 7 {
			t.Error(l)
		}
	}
}

// P11.1, K2: runs of just 20000 steps.
func TestManySteps(t *testing.T) {
	// Each turn of the block 1 takes 5 steps, and the block 0 takes 4 of them; the branch of the turn 3999 is the step 4 + 5 * 3999 = 19999.
	c := codeOf(
		blockOf(jump(1, 0), constant(16, 0), constant(16, 1), constant(16, 3999)),
		blockOf(branchWith(5, 1, []int{4}, 2, nil), integer(16), binary(api.OpAdd, 16, 3, 1), binary(api.OpLt, 1, 4, 2), length()),
		blockOf(reject(9)),
	)
	blocks := []api.Goal{goal(api.GoalBlock, 0), goal(api.GoalBlock, 1)}
	expectReached(t, c, nil, 19998, append(blocks, goal(api.GoalTo, 1))...)
	expectReached(t, c, nil, 19999, append(blocks, goal(api.GoalBlock, 2), goal(api.GoalTo, 1), goal(api.GoalElse, 1))...)
	expectReached(t, c, nil, 20000, append(blocks, goal(api.GoalBlock, 2), goal(api.GoalTo, 1), goal(api.GoalElse, 1), goal(api.GoalReject, 2))...)
}

// P11.1, K3: 200 runs of 20000 steps each are soon made.
func TestManyInputs(t *testing.T) {
	c := codeOfSource(t, `parse { let i = 0:u16; while (i < 60000:u16) { if (i == u16(in[0:u8])) { i = (i + 1:u16); } i = (i + 1:u16); } reject 1; }`)
	var inputs [][]byte
	for n := range 200 {
		inputs = append(inputs, []byte{byte(n)})
	}
	l := missed(t, c, inputs, 20000)
	if len(l) == 0 || len(l) == len(goals(t, c)) {
		t.Error(l)
	}
}

// P11.1, K3: inputs that are the same, none at all, and those that reach nothing new.
func TestInputs(t *testing.T) {
	c := codeOfSource(t, `parse { if (in[0:u8] == 7:u8) { accept; } reject 1; }`)
	if got := missed(t, c, nil, 100); !slices.Equal(got, goals(t, c)) {
		t.Error(got)
	}
	if got := missed(t, c, [][]byte{}, 0); !slices.Equal(got, goals(t, c)) {
		t.Error(got)
	}
	// A run of no steps reaches the block 0.
	if got := missed(t, c, [][]byte{{7}}, 0); !slices.Equal(got, goals(t, c)[1:]) {
		t.Error(got)
	}
	if one, two := missed(t, c, [][]byte{{7}}, 100), missed(t, c, [][]byte{{7}, {7}, {7, 8}}, 100); !slices.Equal(one, two) {
		t.Error(one, two)
	}
}

// emits is code of one block with as many instructions that have a goal; with that of the block, there is one goal more.
func emits(many int) api.Code {
	return codeOf(blockOf(accept(), append([]api.Inst{length()}, slices.Repeat([]api.Inst{emit(0, 0)}, many)...)...))
}

// jumps is code of as many blocks.
func jumps(many int) api.Code {
	var l []block
	for k := 1; k < many; k++ {
		l = append(l, blockOf(jump(k)))
	}
	return codeOf(append(l, blockOf(accept()))...)
}

// loads is code with three goals for each of as many instructions, and one for each of the other ones.
func loads(many, others int) api.Code {
	insts := []api.Inst{constant(8, 1), array(8, 0)}
	insts = append(insts, slices.Repeat([]api.Inst{load(8, 1, 0)}, many)...)
	return codeOf(blockOf(reject(0), append(insts, slices.Repeat([]api.Inst{emit(0, 0)}, others)...)...))
}

// branches is code of as many branches, each with four goals (with those of its block and of an emit), and two blocks more.
func branches(many int) api.Code {
	var l []block
	for k := range many {
		l = append(l, blockOf(branch(2*k, k+1, many+1), constant(1, 0), emit(2*k, 0)))
	}
	return codeOf(append(l, blockOf(accept()), blockOf(accept()))...)
}

// P11.1, K1 to K3: 200 goals are not too many, 201 are.
func TestGoalLimit(t *testing.T) {
	for _, x := range []struct {
		c    api.Code
		many int
	}{
		{emits(198), 199}, {emits(199), 200}, {emits(200), 201}, {emits(2999), 3000},
		{jumps(200), 200}, {jumps(201), 201}, {jumps(400), 400},
		{loads(65, 2), 200}, {loads(65, 3), 201}, {loads(66, 0), 201}, {loads(2998, 0), 8997},
		{branches(49), 198}, {branches(50), 202},
	} {
		want, all := api.OK, x.many
		if x.many > 200 {
			want, all = api.ErrLimit, 0
		}
		if l, e := trace.Goals(x.c); e != want || len(l) != all {
			t.Errorf("%d goals: got %d, %v", x.many, len(l), e)
		}
		if l, e := trace.Reached(x.c, nil, 0); e != want || (len(l) == 1) != (e == api.OK) || e != api.OK && len(l) > 0 {
			t.Errorf("%d goals: reached %v, %v", x.many, l, e)
		}
		if l, e := trace.Missed(x.c, nil, 0); e != want || len(l) != all {
			t.Errorf("%d goals: missed %d, %v", x.many, len(l), e)
		}
	}
}

// P11.1, P1: code that is not valid, and that which has too many goals besides.
func TestInvalidCode(t *testing.T) {
	wrong := []api.Code{
		{},
		codeOf(blockOf(jump(1))),
		codeOf(blockOf(accept(), byteAt(0))),
		codeOf(blockOf(jump(0))),
		codeOf(blockOf(api.End{}), blockOf(accept())),
		codeOf(blockOf(branch(0, 1, 7), constant(1, 1)), blockOf(accept())),
		codeOf(blockOf(accept(), api.Inst{Op: 99})),
		{Blocks: []api.Block{{From: -1, Until: 5, End: accept()}}},
		{Blocks: []api.Block{{Until: 1 << 62, End: accept()}}},
		jumps(401),
		emits(3000),
	}
	for _, many := range []int{5, 500} {
		c := emits(many)
		c.Insts[3].A = many
		wrong = append(wrong, c)
	}
	for _, c := range wrong {
		if l, e := trace.Goals(c); e != api.ErrArg || len(l) != 0 {
			t.Errorf("%v: %v, %v", c, l, e)
		}
		for _, steps := range []int{-1, 0, 10, 20001} {
			if l, e := trace.Reached(c, []byte{1}, steps); e != api.ErrArg || len(l) != 0 {
				t.Errorf("%v: %v, %v", c, l, e)
			}
			for _, inputs := range [][][]byte{nil, {{1}}, make([][]byte, 200), make([][]byte, 201), {make([]byte, 65)}} {
				if l, e := trace.Missed(c, inputs, steps); e != api.ErrArg || len(l) != 0 {
					t.Errorf("%v: %v, %v", c, l, e)
				}
			}
		}
	}
}

// P11.1: the limits of inputs and of steps, for code with few goals and with too many of them.
func TestArguments(t *testing.T) {
	few, many := codeOf(blockOf(accept())), emits(200)
	for _, x := range []struct {
		bytes, steps int
		right        bool
	}{
		{0, 0, true}, {64, 0, true}, {64, 20000, true}, {0, 20000, true},
		{65, 0, false}, {65, 20000, false}, {100000, 10, false},
		{0, -1, false}, {0, 20001, false}, {64, -1 << 63, false}, {64, 1<<63 - 1, false}, {65, -1, false},
	} {
		want := []api.Errno{api.OK, api.ErrLimit}
		if !x.right {
			want = []api.Errno{api.ErrArg, api.ErrArg}
		}
		for k, c := range []api.Code{few, many} {
			input := make([]byte, x.bytes)
			if l, e := trace.Reached(c, input, x.steps); e != want[k] || (len(l) > 0) != (e == api.OK) {
				t.Errorf("%v: %v, %v", x, l, e)
			}
			if l, e := trace.Missed(c, [][]byte{input}, x.steps); e != want[k] || len(l) != 0 {
				t.Errorf("%v: %v, %v", x, l, e)
			}
			if l, e := trace.Missed(c, [][]byte{nil, {1}, input, {2}}, x.steps); e != want[k] || len(l) != 0 {
				t.Errorf("%v: %v, %v", x, l, e)
			}
		}
	}
}

// P11.1, K3: 200 inputs are not too many, 201 are.
func TestNumberOfInputs(t *testing.T) {
	few, many := codeOf(blockOf(reject(1))), emits(200)
	for _, x := range []struct {
		inputs    int
		few, many api.Errno
	}{{0, api.OK, api.ErrLimit}, {199, api.OK, api.ErrLimit}, {200, api.OK, api.ErrLimit}, {201, api.ErrArg, api.ErrArg}, {5000, api.ErrArg, api.ErrArg}} {
		inputs := make([][]byte, x.inputs)
		if l, e := trace.Missed(few, inputs, 9); e != x.few || (len(l) > 0) != (x.inputs == 0) && e == api.OK || e != api.OK && len(l) > 0 {
			t.Errorf("%d inputs: %v, %v", x.inputs, l, e)
		}
		if l, e := trace.Missed(many, inputs, 9); e != x.many || len(l) != 0 {
			t.Errorf("%d inputs: %v, %v", x.inputs, l, e)
		}
	}
	// Only the last one of them is wrong, or reaches anything else.
	c := codeOfSource(t, `parse { if (len == 0:u8) { reject 1; } accept; }`)
	inputs := make([][]byte, 200)
	inputs[199] = make([]byte, 64)
	if l, e := trace.Missed(c, inputs, 100); e != api.OK || len(l) != 0 {
		t.Error(l, e)
	}
	inputs[199] = make([]byte, 65)
	if l, e := trace.Missed(c, inputs, 100); e != api.ErrArg || len(l) != 0 {
		t.Error(l, e)
	}
}

// P11.1: a run is that of layer 10.
func TestOutcomes(t *testing.T) {
	c := codeOfSource(t, `parse { if (in[0:u8] == 7:u8) { accept; } reject 1; }`)
	for n := range 256 {
		input := []byte{byte(n)}
		o, e := machine.Run(c, input, 20000)
		if e != api.OK || slices.Contains(reached(t, c, input, 20000), goal(api.GoalReject, o.N)) != (o.Kind == api.OutReject) {
			t.Error(n, o, e)
		}
	}
}
