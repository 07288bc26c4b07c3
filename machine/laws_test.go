package machine_test

import (
	"math/rand"
	"slices"
	"testing"

	"formfinder/api"
	"formfinder/bits"
	"formfinder/heap"
	"formfinder/machine"
)

// move is a step of a run: the run before it and after it.
type move struct{ before, after api.Machine }

// instruction is that of the step, if it is one.
func (m move) instruction(c api.Code) (api.Inst, bool) {
	if m.before.Next == c.Blocks[m.before.Block].Until {
		return api.Inst{}, false
	}
	return c.Insts[m.before.Next], true
}

// value is the value that the instruction of the step has computed.
func (m move) value() uint64 { return m.after.Vals[m.before.Next] }

// moves are the first steps of a run.
func moves(t *testing.T, x sample, most int) []move {
	t.Helper()
	var l []move
	all := runs(t, x.code, x.input, most)
	for k := range all[1:] {
		l = append(l, move{all[k], all[k+1]})
	}
	return l
}

// P10.2: running is stepping.
func TestSteps(t *testing.T) {
	for _, x := range samples(t, 4, 400) {
		l := runs(t, x.code, x.input, 80)
		for steps := range 90 {
			if steps >= len(l) && l[len(l)-1].Out.Kind == 0 {
				break
			}
			m := l[min(steps, len(l)-1)]
			want := m.Out
			if m.Out.Kind == 0 {
				b := x.code.Blocks[m.Block]
				want = api.Outcome{Kind: api.OutBudget, At: b.End.At, N: m.Block}
				if m.Next < b.Until {
					want.At = x.code.Insts[m.Next].At
				}
			}
			if o, e := machine.Run(x.code, x.input, steps); !same(o, want) || e != api.OK {
				t.Fatalf("%v: %d steps: got %+v, %v, want %+v", x, steps, o, e, want)
			}
		}
	}
}

// P10.3: an outcome does not change with more steps.
func TestMoreSteps(t *testing.T) {
	for _, x := range samples(t, 5, 600) {
		var found api.Outcome
		for _, steps := range []int{0, 1, 2, 3, 5, 8, 13, 21, 34, 55, 89, 144, 1000, 19999, 20000} {
			o, e := machine.Run(x.code, x.input, steps)
			if e != api.OK {
				t.Fatal(x, steps, e)
			}
			if found.Kind != 0 && !same(o, found) {
				t.Fatalf("%v: %d steps: got %+v, want %+v", x, steps, o, found)
			}
			if o.Kind != api.OutBudget {
				found = o
			}
		}
	}
}

// P10.4: instructions compute what layer 1 says.
func TestOperators(t *testing.T) {
	seen := map[int]int{}
	for _, x := range samples(t, 6, 1500) {
		for _, m := range moves(t, x, 60) {
			i, found := m.instruction(x.code)
			if !found {
				continue
			}
			arg := func(v int) api.Bits { return api.Bits{W: x.code.Insts[v].W, V: m.before.Vals[v]} }
			var want api.Bits
			var e api.Errno
			switch {
			case i.Op == api.OpConst:
				want = api.Bits{W: i.W, V: i.N}
			case i.Op == api.OpNot:
				want, e = bits.Not(arg(i.A))
			case i.Op == api.OpZext:
				want, e = bits.Zext(arg(i.A), i.W)
			case i.Op == api.OpSext:
				want, e = bits.Sext(arg(i.A), i.W)
			case i.Op == api.OpPart:
				want, e = bits.Part(arg(i.A), int(i.N), i.W)
			case i.Op == api.OpJoin:
				want, e = bits.Join(arg(i.A), arg(i.B))
			case api.OpAdd <= i.Op && i.Op <= api.OpSlt:
				want, e = bits.Bin(i.Op, arg(i.A), arg(i.B))
			case i.Op == api.OpLen:
				want = api.Bits{W: 8, V: uint64(len(x.input))}
			default:
				continue
			}
			seen[i.Op]++
			if got := (api.Bits{W: i.W, V: m.value()}); got != want || e != api.OK {
				t.Fatalf("%v: %+v: got %v, want %v, %v", x, i, got, want, e)
			}
			// nothing else changes
			other := cloneRun(m.before)
			other.Vals[other.Next] = want.V
			other.Next++
			other.Steps++
			if !same(m.after, other) {
				t.Fatalf("%v: got %+v, want %+v", x, m.after, other)
			}
		}
	}
	for _, op := range operators[:19] {
		if seen[op] < 20 {
			t.Errorf("the operator %d was seen %d times", op, seen[op])
		}
	}
}

// remembered is what an instruction of the memory must do: the objects, the value, and the fault.
func remembered(c api.Code, m api.Machine, i api.Inst) (objs []api.Obj, value uint64, fault int, e api.Errno) {
	objs = m.Objs
	made := func(widths []int) {
		var n int
		objs, n, fault, e = heap.New(m.Objs, widths)
		value = uint64(n)
	}
	object := func() int { return int(m.Vals[i.A]) }
	switch i.Op {
	case api.OpNew:
		made(slices.Repeat([]int{i.P}, int(min(m.Vals[i.A], 100))))
	case api.OpMake:
		made(c.Structs[i.P-65])
	case api.OpLoad:
		var b api.Bits
		b, fault, e = heap.Load(m.Objs, object(), m.Vals[i.B])
		value = b.V
	case api.OpPut:
		objs, fault, e = heap.Put(m.Objs, object(), m.Vals[i.B], m.Vals[i.C])
	case api.OpFree:
		objs, fault, e = heap.Free(m.Objs, object())
	}
	return objs, value, fault, e
}

// P10.5: a fault is that of its instruction, and happens exactly as layer 9 says.
func TestFaultsOfMemory(t *testing.T) {
	type kind struct{ op, fault int }
	seen := map[kind]int{}
	for _, x := range samples(t, 7, 3000) {
		for _, m := range moves(t, x, 200) {
			i, found := m.instruction(x.code)
			if !found {
				if m.after.Out.Kind == api.OutFault {
					t.Fatalf("%v: an end has the fault %+v", x, m.after.Out)
				}
				continue
			}
			want := cloneRun(m.before)
			objs, value, fault, e := remembered(x.code, m.before, i)
			if e != api.OK {
				t.Fatalf("%v: %+v: %v", x, i, e)
			}
			if i.Op == api.OpByte && m.before.Vals[i.A] >= uint64(len(x.input)) {
				fault = api.FaultShort
			}
			if i.Op == api.OpEmit && len(m.before.Values) == 24 {
				fault = api.FaultSize
			}
			seen[kind{i.Op, fault}]++
			if (m.after.Out.Kind == api.OutFault) != (fault != 0) {
				t.Fatalf("%v: %+v: got %+v, want the fault %d", x, i, m.after.Out, fault)
			}
			want.Steps++
			if fault != 0 {
				want.Out = api.Outcome{Kind: api.OutFault, Code: fault, At: i.At, N: m.before.Next}
			} else {
				want.Next++
				want.Objs = objs
				// what others compute is not said here
				want.Vals[m.before.Next], want.Values = m.value(), m.after.Values
				if api.OpNew <= i.Op && i.Op <= api.OpFree && value != m.value() {
					t.Fatalf("%v: %+v: got %d, want %d", x, i, m.value(), value)
				}
			}
			if !same(m.after, want) {
				t.Fatalf("%v: %+v: got %+v, want %+v", x, i, m.after, want)
			}
		}
	}
	for _, k := range []kind{
		{api.OpByte, 0}, {api.OpByte, api.FaultShort},
		{api.OpNew, 0}, {api.OpNew, api.FaultSize}, {api.OpMake, 0}, {api.OpMake, api.FaultSize},
		{api.OpLoad, 0}, {api.OpLoad, api.FaultGone}, {api.OpLoad, api.FaultOut}, {api.OpLoad, api.FaultRaw},
		{api.OpPut, 0}, {api.OpPut, api.FaultGone}, {api.OpPut, api.FaultOut},
		{api.OpFree, 0}, {api.OpFree, api.FaultGone}, {api.OpEmit, 0}, {api.OpEmit, api.FaultSize},
	} {
		if seen[k] == 0 {
			t.Errorf("%v was never seen", k)
		}
	}
}

// P10.6: stored values have names of the code, and widths of values that are emitted as these names.
func TestStoredValues(t *testing.T) {
	many := 0
	for _, x := range samples(t, 8, 1000) {
		all := moves(t, x, 100)
		for _, m := range all {
			want := slices.Clone(m.before.Values)
			if i, found := m.instruction(x.code); found && i.Op == api.OpEmit && m.after.Out.Kind == 0 {
				want = append(want, api.Value{Name: x.code.Names[i.N], W: x.code.Insts[i.A].W, V: m.before.Vals[i.A]})
			}
			if !same(m.after.Values, want) {
				t.Fatalf("%v: got %+v, want %+v", x, m.after.Values, want)
			}
		}
		last := all[len(all)-1].after
		if o := last.Out; (o.Kind == api.OutAccept) != same(o.Values, last.Values) && len(last.Values) > 0 {
			t.Fatalf("%v: %+v", x, last)
		}
		for _, v := range last.Out.Values {
			many++
			if !slices.ContainsFunc(x.code.Insts, func(i api.Inst) bool {
				return i.Op == api.OpEmit && x.code.Names[i.N] == v.Name && x.code.Insts[i.A].W == v.W
			}) {
				t.Fatalf("%v: %+v is of no emit", x, v)
			}
		}
	}
	if many < 100 {
		t.Error(many)
	}
}

// P10.7: parameters get the values that the values of the edge had before.
func TestParameters(t *testing.T) {
	for _, x := range samples(t, 9, 1000) {
		for _, m := range moves(t, x, 60) {
			if _, found := m.instruction(x.code); found || m.after.Out.Kind != 0 {
				continue
			}
			e := x.code.Blocks[m.before.Block].End
			to, args := e.To, e.ToArgs
			if e.Kind == api.EndBranch && m.before.Vals[e.A] == 0 {
				to, args = e.Else, e.ElseArgs
			}
			want := cloneRun(m.before)
			want.Block, want.Next, want.Steps = to, x.code.Blocks[to].From, want.Steps+1
			for k, a := range args {
				want.Vals[want.Next+k] = m.before.Vals[a]
			}
			if !same(m.after, want) {
				t.Fatalf("%v: got %+v, want %+v", x, m.after, want)
			}
		}
	}
}

// P10.8: bytes that no instruction reads do not matter.
func TestUnreadBytes(t *testing.T) {
	r := rand.New(rand.NewSource(10))
	for _, x := range samples(t, 10, 600) {
		l := runs(t, x.code, x.input, 80)
		read := map[uint64]bool{}
		for k := range l[1:] {
			if i, found := (move{before: l[k]}).instruction(x.code); found && i.Op == api.OpByte {
				read[l[k].Vals[i.A]] = true
			}
		}
		other := slices.Clone(x.input)
		for k := range other {
			if !read[uint64(k)] {
				other[k] = byte(r.Intn(256))
			}
		}
		if m := runs(t, x.code, other, 80); !same(m, l) {
			t.Fatalf("%v on %v: got %+v, want %+v", x, other, m, l)
		}
	}
}

// spoil changes all that a run has.
func spoil(m api.Machine) {
	values := func(l []api.Value) {
		for i := range l[:cap(l)] {
			l[:cap(l)][i] = api.Value{Name: "spoiled", W: 1, V: 1}
		}
	}
	for i := range m.Vals[:cap(m.Vals)] {
		m.Vals[:cap(m.Vals)][i] = 12345
	}
	for i := range m.Objs {
		for k := range m.Objs[i].Cells {
			m.Objs[i].Cells[k] = api.Cell{W: 1, Set: true, V: 1}
		}
		m.Objs[i] = api.Obj{Gone: true}
	}
	values(m.Values)
	values(m.Out.Values)
}

// P10.1, P1: results share no memory with arguments, nor with themselves, and arguments stay as they are.
func TestMemoryOfResults(t *testing.T) {
	for _, x := range samples(t, 11, 150) {
		c, input := cloneCode(x.code), slices.Clone(x.input)
		unchanged := func(m api.Machine, want string) {
			t.Helper()
			if text(m) != want || !same(x.code, c) || !same(x.input, input) {
				t.Fatalf("%v: a call or a change of its result has changed what was given", c)
			}
		}
		for _, m := range runs(t, c, input, 40) {
			given, before := cloneRun(m), text(m)
			if !machine.Valid(x.code, x.input, given) {
				t.Fatal(m)
			}
			next, e := machine.Step(x.code, x.input, given)
			unchanged(given, before)
			if e == api.OK {
				values := text(next.Out.Values)
				for i := range next.Values {
					next.Values[i].V++
				}
				if text(next.Out.Values) != values {
					t.Fatalf("%v: stored values share memory with those of the outcome", c)
				}
				spoil(next)
				unchanged(given, before)
				spoil(given)
				again, _ := machine.Step(x.code, x.input, m)
				other, _ := machine.Step(x.code, x.input, m)
				spoil(again)
				if !machine.Valid(x.code, x.input, other) {
					t.Fatalf("%v: results share memory", c)
				}
			}
			o, _ := machine.Run(x.code, x.input, m.Steps)
			spoil(api.Machine{Out: o})
			unchanged(m, before)
		}
		first, _ := machine.Start(x.code, x.input)
		spoil(first)
		unchanged(api.Machine{}, text(api.Machine{}))
		if second, _ := machine.Start(x.code, x.input); !machine.Valid(x.code, x.input, second) {
			t.Fatal(second)
		}
	}
}

// P1: results depend only on the arguments.
func TestAgain(t *testing.T) {
	for _, x := range samples(t, 12, 100) {
		o, e := machine.Run(x.code, x.input, 500)
		m := runs(t, x.code, x.input, 20)
		p, f := machine.Run(cloneCode(x.code), slices.Clone(x.input), 500)
		if !same(o, p) || e != f || !same(m, runs(t, x.code, x.input, 20)) {
			t.Fatal(x)
		}
	}
}

// P10.2: following a run tells the same as stepping: each block that it leaves, and to which side.
func TestFollow(t *testing.T) {
	type turn struct {
		block int
		to    bool
	}
	for _, x := range samples(t, 13, 600) {
		for _, steps := range []int{0, 1, 3, 7, 20, 80} {
			var want []turn
			for _, m := range moves(t, x, steps) {
				b := x.code.Blocks[m.before.Block]
				if m.before.Next == b.Until && m.after.Out.Kind == 0 {
					want = append(want, turn{m.before.Block, b.End.Kind == api.EndJump || m.before.Vals[b.End.A] == 1})
				}
			}
			var got []turn
			o, e := machine.Follow(x.code, x.input, steps, func(block int, to bool) { got = append(got, turn{block, to}) })
			p, f := machine.Run(x.code, x.input, steps)
			if !slices.Equal(got, want) || !same(o, p) || e != f {
				t.Fatalf("%v: %d steps: got %v, %+v, %v, want %v, %+v, %v", x, steps, got, o, e, want, p, f)
			}
		}
	}
	valid := codeOf(blockOf(jump(1)), blockOf(accept()))
	for _, x := range []struct {
		c     api.Code
		bytes int
		steps int
	}{{api.Code{}, 0, 5}, {valid, 65, 5}, {valid, 0, -1}, {valid, 0, 20001}} {
		o, e := machine.Follow(x.c, make([]byte, x.bytes), x.steps, func(int, bool) { t.Error("no step may be made") })
		if !same(o, api.Outcome{}) || e != api.ErrArg {
			t.Errorf("%v: %+v, %v", x, o, e)
		}
	}
}
