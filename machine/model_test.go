package machine_test

import (
	"math/big"
	"slices"
	"testing"

	"formfinder/api"
	"formfinder/machine"
)

// world is a run as the chapter tells it; its values are numbers of any size, by the indices of instructions, and its objects are cells by their places.
type world struct {
	code        api.Code
	input       []byte
	block, next int
	vals        map[int]*big.Int
	objs        []thing
	stored      []api.Value
	steps       int
	out         api.Outcome
}

// thing is an object: the widths of its cells, and what was put.
type thing struct {
	widths []int
	cells  map[string]*big.Int
	gone   bool
}

func number(n uint64) *big.Int { return new(big.Int).SetUint64(n) }

func power(w int) *big.Int { return new(big.Int).Lsh(big.NewInt(1), uint(w)) }

// wrap is a number modulo 2^w.
func wrap(n *big.Int, w int) *big.Int { return n.Mod(n, power(w)) }

func truth(b bool) *big.Int {
	if b {
		return number(1)
	}
	return number(0)
}

// signed is the signed value of a bit vector.
func signed(n *big.Int, w int) *big.Int {
	if n.Bit(w-1) == 1 {
		return new(big.Int).Sub(n, power(w))
	}
	return n
}

// computed is the result of an operator of two arguments of a width, as the table of layer 1 says.
func computed(op int, a, b *big.Int, w int) *big.Int {
	n := new(big.Int)
	switch op {
	case api.OpAdd:
		return wrap(n.Add(a, b), w)
	case api.OpSub:
		return wrap(n.Sub(a, b), w)
	case api.OpMul:
		return wrap(n.Mul(a, b), w)
	case api.OpDiv:
		if b.Sign() == 0 {
			return n.Sub(power(w), number(1))
		}
		return n.Quo(a, b)
	case api.OpRem:
		if b.Sign() == 0 {
			return a
		}
		return n.Rem(a, b)
	case api.OpAnd:
		return n.And(a, b)
	case api.OpOr:
		return n.Or(a, b)
	case api.OpXor:
		return n.Xor(a, b)
	case api.OpShl, api.OpShr:
		if b.Cmp(big.NewInt(int64(w))) >= 0 {
			return number(0)
		}
		if op == api.OpShr {
			return n.Rsh(a, uint(b.Uint64()))
		}
		return wrap(n.Lsh(a, uint(b.Uint64())), w)
	case api.OpEq:
		return truth(a.Cmp(b) == 0)
	case api.OpLt:
		return truth(a.Cmp(b) < 0)
	case api.OpSlt:
		return truth(signed(a, w).Cmp(signed(b, w)) < 0)
	}
	panic(op)
}

// make adds an object, or says that this is a fault.
func (w *world) make(widths []int) (*big.Int, int) {
	if len(w.objs) == 8 {
		return nil, api.FaultSize
	}
	w.objs = append(w.objs, thing{widths: widths, cells: map[string]*big.Int{}})
	return number(uint64(len(w.objs) - 1)), 0
}

// cell is the object of a pointer, and the fault of a cell of it.
func (w *world) cell(pointer, index *big.Int) (*thing, int) {
	o := &w.objs[pointer.Int64()]
	if o.gone {
		return o, api.FaultGone
	}
	if index.Cmp(big.NewInt(int64(len(o.widths)))) >= 0 {
		return o, api.FaultOut
	}
	return o, 0
}

// do is the value of an instruction (nil: none), and its fault.
func (w *world) do(i api.Inst) (*big.Int, int) {
	value := func(k int) *big.Int { return w.vals[k] }
	switch i.Op {
	case api.OpConst:
		return number(i.N), 0
	case api.OpNot:
		all := new(big.Int).Sub(power(i.W), number(1))
		return all.Sub(all, value(i.A)), 0
	case api.OpZext:
		return value(i.A), 0
	case api.OpSext:
		return wrap(new(big.Int).Add(signed(value(i.A), w.code.Insts[i.A].W), power(i.W)), i.W), 0
	case api.OpPart:
		return wrap(new(big.Int).Rsh(value(i.A), uint(i.N)), i.W), 0
	case api.OpJoin:
		high := new(big.Int).Mul(value(i.A), power(w.code.Insts[i.B].W))
		return high.Add(high, value(i.B)), 0
	case api.OpLen:
		return big.NewInt(int64(len(w.input))), 0
	case api.OpByte:
		for k, b := range w.input {
			if value(i.A).Cmp(big.NewInt(int64(k))) == 0 {
				return number(uint64(b)), 0
			}
		}
		return nil, api.FaultShort
	case api.OpParam:
		return w.vals[w.next], 0
	case api.OpNew:
		if value(i.A).Cmp(big.NewInt(16)) > 0 {
			return nil, api.FaultSize
		}
		return w.make(slices.Repeat([]int{int(i.N)}, int(value(i.A).Int64())))
	case api.OpMake:
		return w.make(w.code.Structs[i.N])
	case api.OpLoad:
		o, fault := w.cell(value(i.A), value(i.B))
		v, set := o.cells[value(i.B).String()]
		if fault == 0 && !set {
			fault = api.FaultRaw
		}
		return v, fault
	case api.OpPut:
		o, fault := w.cell(value(i.A), value(i.B))
		if fault == 0 {
			o.cells[value(i.B).String()] = value(i.C)
		}
		return nil, fault
	case api.OpFree:
		o := &w.objs[value(i.A).Int64()]
		if o.gone {
			return nil, api.FaultGone
		}
		o.gone = true
		return nil, 0
	case api.OpEmit:
		if len(w.stored) == 24 {
			return nil, api.FaultSize
		}
		w.stored = append(w.stored, api.Value{Name: w.code.Names[i.N], W: w.code.Insts[i.A].W, V: value(i.A).Uint64()})
		return nil, 0
	}
	return computed(i.Op, value(i.A), value(i.B), w.code.Insts[i.A].W), 0
}

// step makes a step.
func (w *world) step() {
	w.steps++
	b := w.code.Blocks[w.block]
	if w.next != b.Until {
		i := w.code.Insts[w.next]
		value, fault := w.do(i)
		if fault != 0 {
			w.out = api.Outcome{Kind: api.OutFault, Code: fault, At: i.At, N: w.next}
			return
		}
		if value != nil {
			w.vals[w.next] = value
		}
		w.next++
		return
	}
	goTo := func(block int, args []int) {
		var read []*big.Int
		for _, a := range args {
			read = append(read, w.vals[a])
		}
		w.block, w.next = block, w.code.Blocks[block].From
		for k, v := range read {
			w.vals[w.next+k] = v
		}
	}
	switch e := b.End; {
	case e.Kind == api.EndAccept:
		w.out = api.Outcome{Kind: api.OutAccept, At: e.At, N: w.block, Values: w.stored}
	case e.Kind == api.EndReject:
		w.out = api.Outcome{Kind: api.OutReject, Code: e.N, At: e.At, N: w.block}
	case e.Kind == api.EndBranch && w.vals[e.A].Sign() == 0:
		goTo(e.Else, e.ElseArgs)
	default:
		goTo(e.To, e.ToArgs)
	}
}

// machine is the run as api has it.
func (w *world) machine() api.Machine {
	m := api.Machine{Block: w.block, Next: w.next, Values: w.stored, Steps: w.steps, Out: w.out}
	for k := range w.code.Insts {
		v := number(0)
		if w.vals[k] != nil {
			v = w.vals[k]
		}
		m.Vals = append(m.Vals, v.Uint64())
	}
	for _, o := range w.objs {
		obj := api.Obj{Gone: o.gone}
		for k, width := range o.widths {
			c := api.Cell{W: width}
			if v, set := o.cells[big.NewInt(int64(k)).String()]; set {
				c.Set, c.V = true, v.Uint64()
			}
			obj.Cells = append(obj.Cells, c)
		}
		m.Objs = append(m.Objs, obj)
	}
	return cloneRun(m)
}

// modelRuns are the runs after 0, 1, 2 steps and so on, up to the outcome or so many steps.
func modelRuns(c api.Code, input []byte, most int) []api.Machine {
	w := &world{code: c, input: input, vals: map[int]*big.Int{}}
	l := []api.Machine{w.machine()}
	for w.steps < most && w.out.Kind == 0 {
		w.step()
		l = append(l, w.machine())
	}
	return l
}

// modelOutcome is the outcome of a run of at most so many steps.
func modelOutcome(c api.Code, m api.Machine) api.Outcome {
	if m.Out.Kind != 0 {
		return m.Out
	}
	b := c.Blocks[m.Block]
	if m.Next == b.Until {
		return api.Outcome{Kind: api.OutBudget, At: b.End.At, N: m.Block}
	}
	return api.Outcome{Kind: api.OutBudget, At: c.Insts[m.Next].At, N: m.Block}
}

// P10.1: random code and parsers, step by step.
func TestModel(t *testing.T) {
	for _, x := range samples(t, 1, 500) {
		all := modelRuns(x.code, x.input, 60)
		expectRun(t, x.code, x.input, start(t, x.code, x.input), all[0])
		for k, want := range all[1:] {
			got, e := machine.Step(x.code, x.input, all[k])
			if e != api.OK {
				t.Fatal(x, all[k], e)
			}
			expectRun(t, x.code, x.input, got, want)
		}
	}
}

// P10.1, J4: random code and parsers to their ends.
func TestModelOutcomes(t *testing.T) {
	for _, x := range samples(t, 3, 2000) {
		all := modelRuns(x.code, x.input, 300)
		for _, steps := range []int{len(all) - 1, len(all) / 2, len(all) / 3} {
			o, e := machine.Run(x.code, x.input, steps)
			if !same(o, modelOutcome(x.code, all[steps])) || e != api.OK {
				t.Fatalf("%v: %d steps: got %+v, %v, want %+v", x, steps, o, e, all[steps])
			}
		}
		if last := all[len(all)-1]; last.Out.Kind != 0 {
			expectOutcome(t, x.code, x.input, last.Out)
		}
	}
}
