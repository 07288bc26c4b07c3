package machine_test

import (
	"fmt"
	"math"
	"slices"
	"testing"

	"formfinder/api"
	"formfinder/machine"
)

// expectRun checks that a run is as it must be, and what Run says after as many steps.
func expectRun(t *testing.T, c api.Code, input []byte, got, want api.Machine) {
	t.Helper()
	if !same(got, want) {
		t.Errorf("%v on %v after %d steps:\ngot  %+v\nwant %+v", c, input, got.Steps, got, want)
	}
	if !machine.Valid(c, input, want) {
		t.Errorf("%v on %v: %+v is valid", c, input, want)
	}
	o, e := machine.Run(c, input, want.Steps)
	if !same(o, modelOutcome(c, want)) || e != api.OK {
		t.Errorf("%v on %v after %d steps: %+v, %v", c, input, want.Steps, o, e)
	}
}

// expectOutcome checks the outcome of a run.
func expectOutcome(t *testing.T, c api.Code, input []byte, want api.Outcome) {
	t.Helper()
	if o, e := machine.Run(c, input, 20000); !same(o, want) || e != api.OK {
		t.Errorf("%v on %v: got %+v, %v, want %+v", c, input, o, e, want)
	}
	l := runs(t, c, input, 20000)
	if o := l[len(l)-1].Out; !same(o, want) {
		t.Errorf("%v on %v: got %+v step by step, want %+v", c, input, o, want)
	}
}

// valueOf is the value of the last instruction of the only block.
func valueOf(t *testing.T, input []byte, insts ...api.Inst) uint64 {
	t.Helper()
	m := after(t, codeOf(blockOf(accept(), insts...)), input, len(insts))
	if m.Out.Kind != 0 || m.Next != len(insts) {
		t.Fatalf("%v: %+v", insts, m)
	}
	return m.Vals[len(insts)-1]
}

// P10.1: the examples of the chapter.
func TestExamples(t *testing.T) {
	source := `parse { let x = in[0:u8]; if (x == 1:u8) { x = 2:u8; } emit a = x; accept; }`
	c := codeOfSource(t, source)
	l := runs(t, c, []byte{1, 9}, 100)
	if len(l) != 11 {
		t.Fatal(len(l))
	}
	if m := l[4]; m.Block != 0 || m.Next != c.Blocks[0].Until || m.Next != 4 || m.Vals[3] != 1 {
		t.Error(m)
	}
	if m := l[5]; m.Block != 1 || m.Next != 4 {
		t.Error(m)
	}
	if m := l[7]; m.Block != 2 || m.Next != 5 || m.Vals[5] != 2 {
		t.Error(m)
	}
	values := []api.Value{{Name: "a", W: 8, V: 2}}
	at := len(source) - len("accept; }")
	expectRun(t, c, []byte{1, 9}, l[10], api.Machine{Block: 2, Next: 7, Vals: []uint64{0, 1, 1, 1, 2, 2, 0}, Values: values, Steps: 10, Out: api.Outcome{Kind: api.OutAccept, At: at, N: 2, Values: values}})
	l = runs(t, c, nil, 100)
	if len(l) != 3 {
		t.Fatal(len(l))
	}
	expectRun(t, c, nil, l[1], api.Machine{Next: 1, Vals: make([]uint64, 7), Steps: 1})
	expectRun(t, c, nil, l[2], api.Machine{Next: 1, Vals: make([]uint64, 7), Steps: 2, Out: api.Outcome{Kind: api.OutFault, Code: api.FaultShort, At: len("parse { let x = "), N: 1}})
}

// P10.1, J2
func TestStart(t *testing.T) {
	for _, x := range []struct {
		c    api.Code
		vals int
	}{
		{codeOf(blockOf(accept())), 0},
		{codeOf(blockOf(reject(3), length())), 1},
		{codeOf(blockOf(jump(1)), blockOf(accept(), length(), emit(0, 1))), 2},
	} {
		for _, input := range [][]byte{nil, {}, {0}, {1, 2, 3}, make([]byte, 64)} {
			expectRun(t, x.c, input, start(t, x.c, input), api.Machine{Vals: make([]uint64, x.vals)})
		}
	}
}

// P10.1, P10.4: an instruction computes a value.
func TestComputing(t *testing.T) {
	for _, x := range []struct {
		op, w   int
		a, b, v uint64
	}{
		{api.OpAdd, 8, 200, 100, 44}, {api.OpAdd, 64, math.MaxUint64, 2, 1}, {api.OpAdd, 1, 1, 1, 0},
		{api.OpSub, 8, 3, 5, 254}, {api.OpSub, 8, 5, 3, 2}, {api.OpSub, 64, 0, 1, math.MaxUint64},
		{api.OpMul, 8, 20, 20, 144}, {api.OpMul, 16, 20, 20, 400}, {api.OpMul, 64, 1 << 63, 3, 1 << 63},
		{api.OpDiv, 8, 7, 0, 255}, {api.OpDiv, 8, 7, 2, 3}, {api.OpDiv, 1, 0, 0, 1}, {api.OpDiv, 64, 5, 0, math.MaxUint64},
		{api.OpRem, 8, 7, 0, 7}, {api.OpRem, 8, 7, 4, 3},
		{api.OpAnd, 8, 12, 10, 8}, {api.OpOr, 8, 12, 10, 14}, {api.OpXor, 8, 12, 10, 6},
		{api.OpShl, 8, 3, 7, 128}, {api.OpShl, 8, 3, 8, 0}, {api.OpShl, 64, 1, 63, 1 << 63}, {api.OpShl, 64, 1, 64, 0},
		{api.OpShr, 8, 255, 7, 1}, {api.OpShr, 8, 255, 8, 0}, {api.OpShr, 8, 255, 200, 0},
		{api.OpEq, 8, 5, 5, 1}, {api.OpEq, 8, 5, 6, 0},
		{api.OpLt, 8, 5, 6, 1}, {api.OpLt, 8, 6, 5, 0}, {api.OpLt, 8, 5, 5, 0}, {api.OpLt, 8, 255, 1, 0},
		{api.OpSlt, 8, 255, 1, 1}, {api.OpSlt, 8, 1, 255, 0}, {api.OpSlt, 8, 127, 128, 0}, {api.OpSlt, 1, 1, 0, 1},
	} {
		w := x.w
		if x.op >= api.OpEq {
			w = 1
		}
		if v := valueOf(t, nil, constant(x.w, x.a), constant(x.w, x.b), binary(x.op, w, 0, 1)); v != x.v {
			t.Errorf("%v: got %d", x, v)
		}
	}
	for _, x := range []struct {
		first api.Inst
		then  api.Inst
		v     uint64
	}{
		{constant(8, 5), api.Inst{Op: api.OpNot, W: 8}, 250},
		{constant(1, 1), api.Inst{Op: api.OpNot, W: 1}, 0},
		{constant(4, 8), api.Inst{Op: api.OpZext, W: 8}, 8},
		{constant(4, 8), api.Inst{Op: api.OpSext, W: 8}, 248},
		{constant(4, 7), api.Inst{Op: api.OpSext, W: 8}, 7},
		{constant(4, 8), api.Inst{Op: api.OpSext, W: 4}, 8},
		{constant(1, 1), api.Inst{Op: api.OpSext, W: 64}, math.MaxUint64},
		{constant(8, 171), api.Inst{Op: api.OpPart, W: 4, N: 4}, 10},
		{constant(8, 171), api.Inst{Op: api.OpPart, W: 4}, 11},
		{constant(8, 171), api.Inst{Op: api.OpPart, W: 3, N: 1}, 5},
		{constant(8, 171), api.Inst{Op: api.OpPart, W: 8}, 171},
		{constant(64, 1<<63), api.Inst{Op: api.OpPart, W: 1, N: 63}, 1},
	} {
		if v := valueOf(t, nil, x.first, x.then); v != x.v {
			t.Errorf("%v: got %d", x, v)
		}
	}
	if v := valueOf(t, nil, constant(4, 10), constant(4, 11), binary(api.OpJoin, 8, 0, 1)); v != 171 {
		t.Error(v)
	}
	if v := valueOf(t, nil, constant(1, 1), constant(63, 5), binary(api.OpJoin, 64, 0, 1)); v != 1<<63+5 {
		t.Error(v)
	}
	for _, n := range []uint64{0, 1, math.MaxUint64} {
		if v := valueOf(t, nil, length(), constant(64, n)); v != n {
			t.Error(n, v)
		}
	}
}

// P10.1: OpLen and OpByte.
func TestReading(t *testing.T) {
	for _, n := range []int{0, 1, 2, 63, 64} {
		if v := valueOf(t, make([]byte, n), length()); v != uint64(n) {
			t.Error(n, v)
		}
	}
	input := make([]byte, 64)
	for k := range input {
		input[k] = byte(255 - 3*k)
	}
	for k, b := range input {
		for _, w := range []int{6, 8, 64} {
			if v := valueOf(t, input, constant(w, uint64(k)), byteAt(0)); v != uint64(b) {
				t.Error(k, w, v)
			}
			if v := valueOf(t, input[:k+1], constant(w, uint64(k)), byteAt(0)); v != uint64(b) {
				t.Error(k, w, v)
			}
		}
	}
	for _, n := range []int{0, 1, 5, 63, 64} {
		for _, k := range []uint64{uint64(n), uint64(n) + 1, 255, 256, 1 << 32, 1 << 63, math.MaxUint64} {
			c := codeOf(blockOf(accept(), length(), constant(64, k), byteAt(1)))
			expectOutcome(t, c, make([]byte, n), api.Outcome{Kind: api.OutFault, Code: api.FaultShort, At: 12, N: 2})
		}
	}
}

// P10.1: OpNew, OpMake, OpLoad, OpPut and OpFree.
func TestMemory(t *testing.T) {
	c := codeOf(blockOf(accept(),
		constant(8, 2), array(4, 0), structure(0), // the objects 0 and 1 are the values 1 and 2
		constant(8, 1), constant(4, 9), put(1, 3, 4), load(4, 1, 3),
		constant(16, 700), put(2, 3, 7), load(16, 2, 3),
		free(1), structure(1),
	))
	l := runs(t, c, nil, 100)
	cells := func(cells ...api.Cell) api.Obj { return api.Obj{Cells: cells} }
	empty := func(widths ...int) api.Obj {
		var o api.Obj
		for _, w := range widths {
			o.Cells = append(o.Cells, api.Cell{W: w})
		}
		return o
	}
	last := len(c.Insts)
	if len(l) != last+2 {
		t.Fatal(len(l), l[len(l)-1])
	}
	filled := cells(api.Cell{W: 4}, api.Cell{W: 4, Set: true, V: 9})
	pair := cells(api.Cell{W: 8}, api.Cell{W: 16, Set: true, V: 700}, api.Cell{W: 1})
	gone := filled
	gone.Gone = true
	for k, want := range map[int][]api.Obj{
		1:    nil,
		2:    {empty(4, 4)},
		3:    {empty(4, 4), empty(8, 16, 1)},
		5:    {empty(4, 4), empty(8, 16, 1)},
		6:    {filled, empty(8, 16, 1)},
		8:    {filled, empty(8, 16, 1)},
		9:    {filled, pair},
		10:   {filled, pair},
		11:   {gone, pair},
		12:   {gone, pair, empty(64)},
		last: {gone, pair, empty(64)},
	} {
		if !same(l[k].Objs, want) {
			t.Errorf("after %d steps: %+v, want %+v", k, l[k].Objs, want)
		}
	}
	// a pointer is the number of its object; what has no value stays 0
	if want := []uint64{2, 0, 1, 1, 9, 0, 9, 700, 0, 700, 0, 2}; !slices.Equal(l[last].Vals, want) {
		t.Error(l[last].Vals)
	}
}

// P10.1: an array has as many cells as the value of A says, of any width.
func TestArrays(t *testing.T) {
	for many := range uint64(17) {
		for _, w := range []int{5, 8, 64} {
			m := after(t, codeOf(blockOf(accept(), constant(w, many), array(w, 0))), nil, 2)
			if len(m.Objs) != 1 || len(m.Objs[0].Cells) != int(many) || m.Vals[1] != 0 || m.Out.Kind != 0 {
				t.Fatal(many, w, m)
			}
			for _, c := range m.Objs[0].Cells {
				if c != (api.Cell{W: w}) {
					t.Error(many, w, c)
				}
			}
		}
	}
}

// faulty are lists of instructions of which the last one has a fault.
func faulty() []struct {
	fault int
	insts []api.Inst
} {
	type list = []api.Inst
	var l []struct {
		fault int
		insts []api.Inst
	}
	add := func(fault int, insts ...api.Inst) {
		l = append(l, struct {
			fault int
			insts []api.Inst
		}{fault, insts})
	}
	add(api.FaultShort, length(), byteAt(0))
	for _, many := range []uint64{17, 18, 255, 256, 1 << 16, 1<<32 + 1, 1 << 62, 1 << 63, math.MaxUint64} {
		add(api.FaultSize, constant(64, many), array(8, 0))
	}
	eight := append(list{constant(8, 0)}, slices.Repeat(list{array(8, 0)}, 8)...)
	add(api.FaultSize, append(slices.Clone(eight), array(8, 0))...)
	add(api.FaultSize, append(slices.Clone(eight), structure(1))...)
	add(api.FaultSize, append(slices.Clone(eight), free(1), free(8), structure(1))...)
	add(api.FaultSize, append(slices.Repeat(list{structure(0)}, 8), structure(0))...)
	add(api.FaultSize, append(slices.Repeat(list{structure(0)}, 8), constant(8, 1), array(3, 8))...)
	add(api.FaultSize, append(append(list{constant(8, 7)}, slices.Repeat(list{emit(0, 0)}, 24)...), emit(0, 1))...)
	for many := range uint64(17) {
		add(api.FaultOut, constant(8, many), array(8, 0), load(8, 1, 0))
		add(api.FaultOut, constant(8, many), array(8, 0), put(1, 0, 0))
		for k := range many {
			add(api.FaultRaw, constant(8, many), array(8, 0), constant(5, k), load(8, 1, 2))
		}
	}
	for _, k := range []uint64{2, 16, 1 << 32, 1 << 63, math.MaxUint64} {
		add(api.FaultOut, constant(64, 2), array(64, 0), constant(64, k), load(64, 1, 2))
		add(api.FaultOut, constant(64, 2), array(64, 0), constant(64, k), put(1, 2, 0))
	}
	add(api.FaultRaw, structure(1), constant(8, 0), load(64, 0, 1))
	add(api.FaultRaw, constant(8, 3), array(8, 0), constant(2, 1), put(1, 2, 0), constant(2, 2), load(8, 1, 4))
	for _, k := range []uint64{0, 1, 5} {
		gone := list{constant(8, 1), array(8, 0), constant(8, 0), put(1, 2, 0), free(1), constant(8, k)}
		add(api.FaultGone, append(slices.Clone(gone), load(8, 1, 5))...)
		add(api.FaultGone, append(slices.Clone(gone), put(1, 5, 0))...)
		add(api.FaultGone, append(slices.Clone(gone), free(1))...)
	}
	add(api.FaultGone, structure(0), free(0), constant(8, 2), load(1, 0, 2))
	add(api.FaultGone, structure(0), structure(0), free(0), free(0))
	return l
}

// P10.1, P10.5: a fault is the outcome, and changes nothing else.
func TestFaults(t *testing.T) {
	for _, x := range faulty() {
		last := len(x.insts) - 1
		c := codeOf(blockOf(jump(1)), blockOf(accept(), x.insts...))
		before := after(t, c, nil, last+1)
		if before.Out.Kind != 0 || before.Block != 1 || before.Next != last {
			t.Fatal(x, before)
		}
		want := cloneRun(before)
		want.Steps++
		want.Out = api.Outcome{Kind: api.OutFault, Code: x.fault, At: 10 + last, N: last}
		got, e := machine.Step(c, nil, before)
		if e != api.OK {
			t.Fatal(x, e)
		}
		expectRun(t, c, nil, got, want)
		expectOutcome(t, c, nil, want.Out)
	}
}

// P10.1, P10.6: there are as many as 24 stored values, also of one name.
func TestStoring(t *testing.T) {
	insts := []api.Inst{constant(8, 7), constant(64, math.MaxUint64), constant(1, 0)}
	var want []api.Value
	for k := range 24 {
		insts = append(insts, emit(k%3, uint64(k/3%2)))
		want = append(want, []api.Value{{W: 8, V: 7}, {W: 64, V: math.MaxUint64}, {W: 1}}[k%3])
		want[k].Name = []string{"a", "b"}[k/3%2]
		c := codeOf(blockOf(accept(), insts...))
		m := after(t, c, nil, len(insts))
		if !same(m.Values, want) || m.Out.Kind != 0 || m.Vals[len(insts)-1] != 0 {
			t.Fatal(k, m)
		}
		expectOutcome(t, c, nil, api.Outcome{Kind: api.OutAccept, At: 1000, Values: want})
		// other outcomes have none
		expectOutcome(t, codeOf(blockOf(reject(9), insts...)), nil, api.Outcome{Kind: api.OutReject, Code: 9, At: 1000})
		c = codeOf(blockOf(accept(), append(slices.Clone(insts), byteAt(0))...))
		expectOutcome(t, c, nil, api.Outcome{Kind: api.OutFault, Code: api.FaultShort, At: 10 + len(insts), N: len(insts)})
		if o, e := machine.Run(c, nil, len(insts)); !same(o, api.Outcome{Kind: api.OutBudget, At: 10 + len(insts)}) || e != api.OK {
			t.Error(o, e)
		}
	}
}

// P10.1: EndAccept and EndReject change nothing but the outcome.
func TestEnds(t *testing.T) {
	for _, end := range []api.End{accept(), reject(0), reject(1), reject(255)} {
		c := codeOf(blockOf(jump(1)), blockOf(jump(2), length(), emit(0, 1)), blockOf(end, structure(1)))
		l := runs(t, c, make([]byte, 3), 100)
		if len(l) != 7 {
			t.Fatal(l)
		}
		want := cloneRun(l[5])
		want.Steps, want.Out = 6, api.Outcome{Kind: api.OutAccept, At: 1002, N: 2, Values: []api.Value{{Name: "b", W: 8, V: 3}}}
		if end.Kind == api.EndReject {
			want.Out = api.Outcome{Kind: api.OutReject, Code: end.N, At: 1002, N: 2}
		}
		expectRun(t, c, make([]byte, 3), l[6], want)
	}
}

// P10.1, P10.7: EndJump and EndBranch lead to the first instruction, and set the parameters.
func TestEdges(t *testing.T) {
	first := []api.Inst{constant(1, 0), constant(8, 5), constant(8, 6), structure(1), structure(1)}
	next := blockOf(accept(), integer(8), pointer(66), integer(8), length())
	other := blockOf(reject(1), integer(8), integer(1))
	for _, x := range []struct {
		cond  uint64
		end   api.End
		block int
		vals  []uint64 // from the value 5 on
	}{
		{0, branchWith(0, 1, []int{1, 4, 2}, 2, []int{2, 0}), 2, []uint64{0, 0, 0, 0, 6, 0}},
		{1, branchWith(0, 1, []int{1, 4, 2}, 2, []int{2, 0}), 1, []uint64{5, 1, 6, 0, 0, 0}},
		{0, branchWith(0, 2, []int{1, 0}, 1, []int{2, 3, 1}), 1, []uint64{6, 0, 5, 0, 0, 0}},
		{1, branchWith(0, 2, []int{1, 0}, 1, []int{2, 3, 1}), 2, []uint64{0, 0, 0, 0, 5, 1}},
	} {
		c := codeOf(blockOf(x.end, first...), next, other)
		c.Insts[0].N = x.cond
		before := after(t, c, nil, 5)
		want := cloneRun(before)
		want.Steps, want.Block, want.Next = 6, x.block, c.Blocks[x.block].From
		want.Vals = append([]uint64{x.cond, 5, 6, 0, 1}, x.vals...)
		got, e := machine.Step(c, nil, before)
		if e != api.OK {
			t.Fatal(e)
		}
		expectRun(t, c, nil, got, want)
		// the steps of the parameters only go on
		for range 2 {
			if got, e = machine.Step(c, nil, got); e != api.OK {
				t.Fatal(e)
			}
			want.Steps, want.Next = want.Steps+1, want.Next+1
			expectRun(t, c, nil, got, want)
		}
	}
	// both sides may be the same block
	both := codeOf(blockOf(branchWith(0, 1, []int{1}, 1, []int{2}), length(), constant(8, 1), constant(8, 2)), blockOf(accept(), integer(8)))
	both.Insts[0] = constant(1, 1)
	for n := range uint64(2) {
		both.Insts[0].N = n
		if m := after(t, both, nil, 4); m.Block != 1 || m.Vals[3] != 2-n {
			t.Error(n, m)
		}
	}
}

// P10.7: parameters that are passed on to parameters are read first.
func TestRotation(t *testing.T) {
	c := codeOf(
		blockOf(jump(1, 0, 1, 2), constant(8, 10), constant(8, 20), constant(8, 30)),
		blockOf(branchWith(6, 1, []int{5, 3, 4}, 2, nil), integer(8), integer(8), integer(8), constant(1, 1)),
		blockOf(accept()),
	)
	l := runs(t, c, nil, 40)
	for turn, want := range [][]uint64{{10, 20, 30}, {30, 10, 20}, {20, 30, 10}, {10, 20, 30}, {30, 10, 20}} {
		m := l[4+5*turn]
		if m.Block != 1 || m.Next != 3 || !slices.Equal(m.Vals[3:6], want) {
			t.Errorf("turn %d: %+v", turn, m)
		}
		// the value of the turn before stays until it is computed again
		if first := turn == 0; (m.Vals[6] == 0) != first {
			t.Errorf("turn %d: %+v", turn, m)
		}
	}
	swapped := codeOfSource(t, `parse { let a = 1:u8; let b = 2:u8; let i = 0:u8; while (i < len) { let c = a; a = b; b = c; i = (i + 1:u8); } emit a = a; emit b = b; accept; }`)
	for n := range 6 {
		o, e := machine.Run(swapped, make([]byte, n), 20000)
		if e != api.OK || o.Kind != api.OutAccept || o.Values[0].V != uint64(1+n%2) || o.Values[1].V != uint64(2-n%2) {
			t.Error(n, o, e)
		}
	}
}

// P10.1: blocks without instructions, and a jump to itself.
func TestEmptyBlocks(t *testing.T) {
	c := codeOf(blockOf(jump(2)), blockOf(jump(1)), blockOf(jump(1)))
	for steps, block := range []int{0, 2, 1, 1, 1, 1} {
		expectRun(t, c, nil, after(t, c, nil, steps), api.Machine{Block: block, Steps: steps})
	}
	c = codeOf(blockOf(jump(1), length()), blockOf(jump(2)), blockOf(accept(), length()))
	for steps, want := range []api.Machine{{}, {Next: 1}, {Block: 1, Next: 1}, {Block: 2, Next: 1}, {Block: 2, Next: 2}} {
		want.Steps, want.Vals = steps, make([]uint64, 2)
		expectRun(t, c, nil, after(t, c, nil, steps), want)
	}
}

// P10.1, J4: OutBudget has the place of what comes next, and its block.
func TestBudget(t *testing.T) {
	c := codeOf(blockOf(jump(1), length()), blockOf(jump(2)), blockOf(reject(4), length(), length()))
	for steps, want := range []api.Outcome{
		{Kind: api.OutBudget, At: 10, N: 0},
		{Kind: api.OutBudget, At: 1000, N: 0},
		{Kind: api.OutBudget, At: 1001, N: 1},
		{Kind: api.OutBudget, At: 11, N: 2},
		{Kind: api.OutBudget, At: 12, N: 2},
		{Kind: api.OutBudget, At: 1002, N: 2},
		{Kind: api.OutReject, Code: 4, At: 1002, N: 2},
		{Kind: api.OutReject, Code: 4, At: 1002, N: 2},
	} {
		if o, e := machine.Run(c, nil, steps); !same(o, want) || e != api.OK {
			t.Error(steps, o, e)
		}
	}
}

// endless is code whose run has no outcome.
func endless() api.Code { return codeOf(blockOf(jump(1)), blockOf(jump(1))) }

// lasting is code that accepts after just so many steps, at least 13.
func lasting(t *testing.T, steps int) api.Code {
	t.Helper()
	// 4 steps and what is added to get into the loop, 6 steps for a turn, and 1 for the end
	turns, more := (steps-5)/6, (steps-5)%6
	first := []api.Inst{constant(16, 0), constant(16, 1), constant(16, uint64(turns))}
	for range more {
		first = append(first, length())
	}
	n := len(first)
	c := codeOf(
		blockOf(jump(1, 0), first...),
		blockOf(branchWith(n+2, 1, []int{n + 1}, 2, nil), integer(16), binary(api.OpAdd, 16, n, 1), binary(api.OpLt, 1, n+1, 2), length(), length()),
		blockOf(accept()),
	)
	for _, x := range []struct{ steps, kind int }{{steps - 1, api.OutBudget}, {steps, api.OutAccept}} {
		if x.steps > 20000 {
			continue
		}
		if o, e := machine.Run(c, nil, x.steps); o.Kind != x.kind || e != api.OK {
			t.Fatal(steps, x, o, e)
		}
	}
	return c
}

// P10.1, J1, J3, J4: runs with as many steps as there may be.
func TestManySteps(t *testing.T) {
	c := endless()
	for _, steps := range []int{1, 2, 3, 9999, 19999, 20000} {
		expectRun(t, c, nil, api.Machine{Block: 1, Steps: steps}, api.Machine{Block: 1, Steps: steps})
		m, e := machine.Step(c, nil, api.Machine{Block: 1, Steps: steps})
		if steps < 20000 {
			expectRun(t, c, nil, m, api.Machine{Block: 1, Steps: steps + 1})
		} else if !same(m, api.Machine{}) || e != api.ErrLimit {
			t.Error(m, e)
		}
	}
	for _, steps := range []int{20001, 20002, 1 << 40, math.MaxInt, -1, -2, math.MinInt} {
		expectInvalid(t, c, nil, api.Machine{Block: 1, Steps: steps})
	}
	// the outcome is reached with the last step, or would be with one more
	done := lasting(t, 20000)
	last := modelRuns(done, nil, 20000)[20000]
	expectRun(t, done, nil, last, last)
	if m, e := machine.Step(done, nil, last); !same(m, api.Machine{}) || e != api.ErrState {
		t.Error(m, e)
	}
	late := lasting(t, 20001)
	last = modelRuns(late, nil, 20000)[20000]
	expectRun(t, late, nil, last, last)
	if m, e := machine.Step(late, nil, last); !same(m, api.Machine{}) || e != api.ErrLimit {
		t.Error(m, e)
	}
	last.Vals[0]++
	expectInvalid(t, late, nil, last)
}

// expectInvalid checks that a run is not valid.
func expectInvalid(t *testing.T, c api.Code, input []byte, m api.Machine) {
	t.Helper()
	if machine.Valid(c, input, m) {
		t.Errorf("%v on %v: %+v is not valid", c, input, m)
	}
	if got, e := machine.Step(c, input, m); !same(got, api.Machine{}) || e != api.ErrArg {
		t.Errorf("%v on %v: %+v: got %+v, %v", c, input, m, got, e)
	}
}

// P10.1, J1, J3: a run with an outcome is valid, but has no steps.
func TestAfterOutcome(t *testing.T) {
	for _, insts := range [][]api.Inst{nil, {length()}, {length(), byteAt(0)}, {length(), emit(0, 1)}} {
		for _, end := range []api.End{accept(), reject(7)} {
			c := codeOf(blockOf(end, insts...))
			l := runs(t, c, nil, 100)
			m := l[len(l)-1]
			expectRun(t, c, nil, m, m)
			if got, e := machine.Step(c, nil, m); !same(got, api.Machine{}) || e != api.ErrState {
				t.Error(insts, end, got, e)
			}
			// it has no more steps than it needs
			for _, more := range []int{1, 2, 20000 - m.Steps, 20001 - m.Steps} {
				other := cloneRun(m)
				other.Steps += more
				expectInvalid(t, c, nil, other)
			}
		}
	}
}

// invalidCodes are codes that are not valid.
func invalidCodes() []api.Code {
	good := codeOf(blockOf(jump(1), length()), blockOf(accept(), length()))
	list := []api.Code{{}, {Blocks: []api.Block{{}}}}
	for _, change := range []func(c *api.Code){
		func(c *api.Code) { c.Insts[0].W = 9 },
		func(c *api.Code) { c.Insts[0].Op = 0 },
		func(c *api.Code) { c.Insts[0].Op = api.OpIte },
		func(c *api.Code) { c.Insts[0].Op = 37 },
		func(c *api.Code) { c.Insts[1] = byteAt(1) },
		func(c *api.Code) { c.Insts[0] = byteAt(-1) },
		func(c *api.Code) { c.Insts[0] = emit(0, 0) },
		func(c *api.Code) { c.Insts[1] = emit(0, 2) },
		func(c *api.Code) { c.Insts[1] = load(8, 0, 0) },
		func(c *api.Code) { c.Insts[0] = structure(2) },
		func(c *api.Code) { c.Insts[0] = integer(8) },
		func(c *api.Code) { c.Insts[1] = integer(8) },
		func(c *api.Code) { c.Blocks[0].End.To = 2 },
		func(c *api.Code) { c.Blocks[0].End.To = -1 },
		func(c *api.Code) { c.Blocks[0].End.To = 0 },
		func(c *api.Code) { c.Blocks[0].End.ToArgs = []int{0} },
		func(c *api.Code) { c.Blocks[0].End = accept() },
		func(c *api.Code) { c.Blocks[1].End.Kind = 0 },
		func(c *api.Code) { c.Blocks[1].End.Kind = 5 },
		func(c *api.Code) { c.Blocks[1].Until = 3 },
		func(c *api.Code) { c.Blocks[1].From = 0 },
		func(c *api.Code) { c.Names[1] = "a" },
		func(c *api.Code) { c.Structs[0][0] = 65 },
		func(c *api.Code) { c.Insts[1].At = 4001 },
	} {
		c := cloneCode(good)
		change(&c)
		list = append(list, c)
	}
	return list
}

// P10.1, P1: code that is not valid, and inputs that are too long.
func TestInvalidArguments(t *testing.T) {
	good := codeOf(blockOf(jump(1), length()), blockOf(accept(), length()))
	expect := func(c api.Code, input []byte) {
		t.Helper()
		if m, e := machine.Start(c, input); !same(m, api.Machine{}) || e != api.ErrArg {
			t.Errorf("%v on %v: %+v, %v", c, input, m, e)
		}
		for _, steps := range []int{math.MinInt, -1, 0, 1, 5, 20000, 20001, math.MaxInt} {
			if o, e := machine.Run(c, input, steps); !same(o, api.Outcome{}) || e != api.ErrArg {
				t.Errorf("%v on %v: %+v, %v", c, input, o, e)
			}
		}
		value := uint64(len(input))
		for _, m := range []api.Machine{{}, {Vals: make([]uint64, 2)}, {Next: 1, Vals: []uint64{0, 0}, Steps: 1}, {Next: 1, Vals: []uint64{value, 0}, Steps: 1}, {Vals: make([]uint64, 2), Steps: 20000}, {Vals: make([]uint64, 2), Out: api.Outcome{Kind: api.OutAccept}}} {
			expectInvalid(t, c, input, m)
		}
	}
	for _, c := range invalidCodes() {
		for _, input := range [][]byte{nil, {1, 2}, make([]byte, 65)} {
			expect(c, input)
		}
	}
	for _, n := range []int{65, 66, 128, 256, 320, 1 << 16} {
		expect(good, make([]byte, n))
	}
	for _, n := range []int{0, 1, 63, 64} {
		input := make([]byte, n)
		if _, e := machine.Start(good, input); e != api.OK {
			t.Error(n, e)
		}
		if o, e := machine.Run(good, input, 20000); o.Kind != api.OutAccept || e != api.OK {
			t.Error(n, o, e)
		}
	}
	for _, steps := range []int{math.MinInt, -20000, -2, -1, 20001, 20002, 1 << 40, math.MaxInt} {
		for _, c := range []api.Code{good, endless()} {
			if o, e := machine.Run(c, nil, steps); !same(o, api.Outcome{}) || e != api.ErrArg {
				t.Error(steps, o, e)
			}
		}
	}
}

// changesOf are runs that differ from a run in one place.
func changesOf(m api.Machine) []api.Machine {
	var l []api.Machine
	add := func(change func(m *api.Machine)) {
		other := cloneRun(m)
		change(&other)
		l = append(l, other)
	}
	for _, d := range []int{-1, 1, math.MinInt, math.MaxInt} {
		add(func(m *api.Machine) { m.Block += d })
		add(func(m *api.Machine) { m.Next += d })
		add(func(m *api.Machine) { m.Steps += d })
		add(func(m *api.Machine) { m.Out.Kind += d })
		add(func(m *api.Machine) { m.Out.Code += d })
		add(func(m *api.Machine) { m.Out.At += d })
		add(func(m *api.Machine) { m.Out.N += d })
	}
	add(func(m *api.Machine) { m.Vals = append(m.Vals, 0) })
	for i := range m.Vals {
		add(func(m *api.Machine) { m.Vals[i]++ })
		add(func(m *api.Machine) { m.Vals[i] = ^m.Vals[i] })
		add(func(m *api.Machine) { m.Vals = m.Vals[:i] })
	}
	add(func(m *api.Machine) { m.Objs = append(m.Objs, api.Obj{}) })
	for i := range m.Objs {
		add(func(m *api.Machine) { m.Objs = m.Objs[:i] })
		add(func(m *api.Machine) { m.Objs[i].Gone = !m.Objs[i].Gone })
		add(func(m *api.Machine) { m.Objs[i].Cells = append(m.Objs[i].Cells, api.Cell{W: 8}) })
		for k := range m.Objs[i].Cells {
			add(func(m *api.Machine) { m.Objs[i].Cells = m.Objs[i].Cells[:k] })
			add(func(m *api.Machine) { m.Objs[i].Cells[k].W ^= 1 })
			add(func(m *api.Machine) { m.Objs[i].Cells[k].V ^= 1 })
			add(func(m *api.Machine) { m.Objs[i].Cells[k].Set = !m.Objs[i].Cells[k].Set })
		}
	}
	for _, list := range []func(m *api.Machine) *[]api.Value{func(m *api.Machine) *[]api.Value { return &m.Values }, func(m *api.Machine) *[]api.Value { return &m.Out.Values }} {
		add(func(m *api.Machine) { *list(m) = append(*list(m), api.Value{Name: "a", W: 8}) })
		for i := range *list(&m) {
			add(func(m *api.Machine) { *list(m) = (*list(m))[:i] })
			add(func(m *api.Machine) { (*list(m))[i].Name += "a" })
			add(func(m *api.Machine) { (*list(m))[i].W++ })
			add(func(m *api.Machine) { (*list(m))[i].V++ })
		}
	}
	return l
}

// P10.1, J1: a run is valid exactly if it is what as many steps lead to.
func TestChangedRuns(t *testing.T) {
	for _, x := range samples(t, 2, 60) {
		all := modelRuns(x.code, x.input, 30)
		for k, m := range all {
			if k%5 != 0 && k != len(all)-1 {
				continue
			}
			for _, change := range changesOf(m) {
				s := change.Steps
				if 0 <= s && s <= 30 && s < len(all) && same(change, all[s]) {
					expectRun(t, x.code, x.input, change, all[s])
				} else if s < 0 || s <= 30 || all[len(all)-1].Out.Kind != 0 {
					expectInvalid(t, x.code, x.input, change)
				}
			}
		}
	}
}

// P10.1, J1: a nil slice and an empty one are equivalent.
func TestEmptySlices(t *testing.T) {
	c := codeOf(blockOf(jump(1)), blockOf(accept()))
	for _, m := range []api.Machine{
		{},
		{Vals: []uint64{}, Objs: []api.Obj{}, Values: []api.Value{}, Out: api.Outcome{Values: []api.Value{}}},
		{Block: 1, Steps: 1},
		{Block: 1, Steps: 1, Vals: []uint64{}, Objs: []api.Obj{}, Values: []api.Value{}, Out: api.Outcome{Values: []api.Value{}}},
		{Block: 1, Steps: 2, Out: api.Outcome{Kind: api.OutAccept, At: 1001, N: 1}},
		{Block: 1, Steps: 2, Values: []api.Value{}, Out: api.Outcome{Kind: api.OutAccept, At: 1001, N: 1, Values: []api.Value{}}},
	} {
		for _, input := range [][]byte{nil, {}} {
			expectRun(t, c, input, m, m)
		}
	}
	none := codeOf(blockOf(accept(), constant(8, 0), array(8, 0)))
	for _, o := range []api.Obj{{}, {Cells: []api.Cell{}}} {
		m := api.Machine{Next: 2, Vals: []uint64{0, 0}, Objs: []api.Obj{o}, Steps: 2}
		expectRun(t, none, nil, after(t, none, nil, 2), m)
	}
}

// P10.1: the longest code there may be, and one with as many blocks.
func TestLargeCode(t *testing.T) {
	c := codeOf(blockOf(accept(), slices.Repeat([]api.Inst{length()}, 3000)...))
	for i := range c.Insts {
		c.Insts[i].At = i
	}
	if o, e := machine.Run(c, nil, 3001); !same(o, api.Outcome{Kind: api.OutAccept, At: 1000}) || e != api.OK {
		t.Error(o, e)
	}
	if o, e := machine.Run(c, nil, 2999); !same(o, api.Outcome{Kind: api.OutBudget, At: 2999}) || e != api.OK {
		t.Error(o, e)
	}
	var l []block
	for k := range 399 {
		l = append(l, blockOf(jump(k+1)))
	}
	c = codeOf(append(l, blockOf(reject(1)))...)
	for steps := range 402 {
		o, e := machine.Run(c, nil, steps)
		want := api.Outcome{Kind: api.OutBudget, At: 1000 + steps, N: steps}
		if steps >= 400 {
			want = api.Outcome{Kind: api.OutReject, Code: 1, At: 1399, N: 399}
		}
		if !same(o, want) || e != api.OK {
			t.Error(steps, fmt.Sprint(o), e)
		}
	}
}
