package lower_test

import (
	"fmt"
	"math/rand"
	"slices"
	"testing"

	"formfinder/api"
	"formfinder/bits"
)

// A run, of a tree or of code, is what it does with the input and with objects, and what it stores, each with its place, and how it ends. There are no faults: bytes behind the end of the input and cells that were not put have values, too.

// runValue is a value of a run: an integer, or the number of an object.
type runValue struct {
	api.Bits
	p int
}

// world is what a run works with.
type world struct {
	input   []byte
	cells   map[[2]uint64]uint64
	objects uint64
	fuel    int // steps that are left
	log     []string
}

// stopped is what a panic carries at the end of a run.
type stopped struct{}

func (w *world) say(parts ...any) { w.log = append(w.log, fmt.Sprint(parts...)) }

func (w *world) burn() {
	w.fuel--
	if w.fuel < 0 {
		panic(stopped{})
	}
}

// stop is the end of a run.
func (w *world) stop(parts ...any) {
	w.say(parts...)
	panic(stopped{})
}

func (w *world) object(p, at int, parts ...any) runValue {
	w.say(append(parts, " @", at)...)
	w.objects++
	return runValue{p: p, Bits: api.Bits{V: w.objects}}
}

func (w *world) byteAt(i uint64, at int) runValue {
	w.say("byte ", i, " @", at)
	v := i*37 + 11
	if i < uint64(len(w.input)) {
		v = uint64(w.input[i])
	}
	return runValue{Bits: api.Bits{W: 8, V: v & 255}}
}

func (w *world) load(p runValue, i uint64, width, at int) runValue {
	w.say("load ", p.V, " ", i, " @", at)
	v, found := w.cells[[2]uint64{p.V, i}]
	if !found {
		v = (p.V*5 + i*3) & (1<<width - 1)
	}
	return runValue{Bits: api.Bits{W: width, V: v}}
}

func (w *world) put(p runValue, i uint64, v runValue, at int) {
	w.say("put ", p.V, " ", i, " ", v, " @", at)
	w.cells[[2]uint64{p.V, i}] = v.V
}

// checked is a result of layer 1, which has no error here.
func checked(b api.Bits, e api.Errno) runValue {
	if e != api.OK {
		panic(e)
	}
	return runValue{Bits: b}
}

// runCode runs code until it ends, or the fuel is at its end.
func runCode(w *world, c api.Code) {
	values := make([]runValue, len(c.Insts))
	for block, args := 0, []runValue(nil); ; {
		b := c.Blocks[block]
		copy(values[b.From:], args)
		for i := b.From + len(args); i < b.Until; i++ {
			w.burn()
			n := c.Insts[i]
			values[i] = runInst(w, c, n, values)
		}
		w.burn()
		e := b.End
		to, passed := e.To, e.ToArgs
		switch {
		case e.Kind == api.EndAccept:
			w.stop("accept @", e.At)
		case e.Kind == api.EndReject:
			w.stop("reject ", e.N, " @", e.At)
		case e.Kind == api.EndBranch && values[e.A].V == 0:
			to, passed = e.Else, e.ElseArgs
		}
		block, args = to, nil
		for _, v := range passed {
			args = append(args, values[v])
		}
	}
}

func runInst(w *world, c api.Code, n api.Inst, values []runValue) runValue {
	x, y, z := values[n.A], values[n.B], values[n.C]
	switch n.Op {
	case api.OpConst:
		return runValue{Bits: api.Bits{W: n.W, V: n.N}}
	case api.OpNot:
		return checked(bits.Not(x.Bits))
	case api.OpZext:
		return checked(bits.Zext(x.Bits, n.W))
	case api.OpSext:
		return checked(bits.Sext(x.Bits, n.W))
	case api.OpPart:
		return checked(bits.Part(x.Bits, int(n.N), n.W))
	case api.OpLen:
		return runValue{Bits: api.Bits{W: 8, V: uint64(len(w.input))}}
	case api.OpByte:
		return w.byteAt(x.V, n.At)
	case api.OpNew:
		return w.object(n.P, n.At, "new ", n.N, " ", x)
	case api.OpMake:
		return w.object(n.P, n.At, "make ", c.Structs[n.N])
	case api.OpLoad:
		return w.load(x, y.V, n.W, n.At)
	case api.OpPut:
		w.put(x, y.V, z, n.At)
	case api.OpFree:
		w.say("free ", x.V, " @", n.At)
	case api.OpEmit:
		w.say("emit ", c.Names[n.N], " ", x, " @", n.At)
	default:
		return checked(bits.Bin(n.Op, x.Bits, y.Bits))
	}
	return runValue{}
}

// walker runs a tree.
type walker struct {
	*world
	structs   []api.Node
	funcs     map[string]api.Node
	variables map[string]runValue
}

func runTree(w *world, n api.Node) {
	r := &walker{world: w, funcs: map[string]api.Node{}, variables: map[string]runValue{}}
	for _, kid := range n.Kids {
		switch kid.Kind {
		case api.NodeStruct:
			r.structs = append(r.structs, kid)
		case api.NodeFunc:
			r.funcs[kid.Name] = kid
		case api.NodeBlock:
			r.block(kid.Kids)
			r.stop("reject 0 @", kid.At)
		}
	}
}

func (r *walker) block(l []api.Node) {
	for _, n := range l {
		r.statement(n)
	}
}

func (r *walker) field(n api.Node) (i uint64, width int) {
	s := r.structs[r.variables[n.Name].p-65]
	k := slices.IndexFunc(s.Kids, func(f api.Node) bool { return f.Name == n.Part })
	return uint64(k), s.Kids[k].W
}

func (r *walker) statement(n api.Node) {
	r.burn()
	x := func(i int) runValue { return r.expression(n.Kids[i]) }
	switch n.Kind {
	case api.NodeLet, api.NodeSet:
		r.variables[n.Name] = x(0)
	case api.NodePut:
		i, v := x(0), x(1)
		r.put(r.variables[n.Name], i.V, v, n.At)
	case api.NodePutPart:
		i, _ := r.field(n)
		v := x(0)
		r.put(r.variables[n.Name], i, v, n.At)
	case api.NodeNew:
		v := x(0)
		r.variables[n.Name] = r.object(n.W, n.At, "new ", n.W, " ", v)
	case api.NodeMake:
		i := slices.IndexFunc(r.structs, func(s api.Node) bool { return s.Name == n.Part })
		var widths []int
		for _, f := range r.structs[i].Kids {
			widths = append(widths, f.W)
		}
		r.variables[n.Name] = r.object(65+i, n.At, "make ", widths)
	case api.NodeFree:
		r.say("free ", r.variables[n.Name].V, " @", n.At)
	case api.NodeSame:
		r.variables[n.Name] = r.variables[n.Part]
	case api.NodeIf:
		if x(0).V == 1 {
			r.block(n.Kids[1].Kids)
		} else if len(n.Kids) == 3 {
			r.block(n.Kids[2].Kids)
		}
	case api.NodeWhile:
		for x(0).V == 1 {
			r.block(n.Kids[1].Kids)
		}
	case api.NodeEmit:
		v := x(0)
		r.say("emit ", n.Name, " ", v, " @", n.At)
	case api.NodeAccept:
		r.stop("accept @", n.At)
	case api.NodeReject:
		r.stop("reject ", n.N, " @", n.At)
	}
}

func (r *walker) expression(n api.Node) runValue {
	r.burn()
	var l []runValue
	for _, kid := range n.Kids {
		l = append(l, r.expression(kid))
	}
	switch n.Kind {
	case api.NodeNumber:
		return runValue{Bits: api.Bits{W: n.W, V: n.N}}
	case api.NodeVar:
		return r.variables[n.Name]
	case api.NodeIn:
		return r.byteAt(l[0].V, n.At)
	case api.NodeLen:
		return runValue{Bits: api.Bits{W: 8, V: uint64(len(r.input))}}
	case api.NodeCell:
		p := r.variables[n.Name]
		return r.load(p, l[0].V, p.p, n.At)
	case api.NodePart:
		i, width := r.field(n)
		return r.load(r.variables[n.Name], i, width, n.At)
	case api.NodeNot:
		return checked(bits.Not(l[0].Bits))
	case api.NodeCast:
		if n.W < l[0].W {
			return checked(bits.Part(l[0].Bits, 0, n.W))
		}
		return checked(bits.Zext(l[0].Bits, n.W))
	case api.NodeSext:
		return checked(bits.Sext(l[0].Bits, n.W))
	case api.NodeCall:
		return r.call(r.funcs[n.Name], l)
	}
	return signed(n.N, l[0].Bits, l[1].Bits)
}

// signed is the result of a sign.
func signed(sign uint64, a, b api.Bits) runValue {
	is := func(c bool) runValue {
		v := runValue{Bits: api.Bits{W: 1}}
		if c {
			v.V = 1
		}
		return v
	}
	switch sign {
	case api.SignEq:
		return is(a.V == b.V)
	case api.SignNe:
		return is(a.V != b.V)
	case api.SignLt:
		return is(a.V < b.V)
	case api.SignLe:
		return is(a.V <= b.V)
	case api.SignGt:
		return is(a.V > b.V)
	case api.SignGe:
		return is(a.V >= b.V)
	case api.SignSlt:
		return is(int64(a.V<<(64-a.W)) < int64(b.V<<(64-b.W)))
	}
	return checked(bits.Bin(int(sign-api.SignAdd)+api.OpAdd, a, b))
}

func (r *walker) call(f api.Node, args []runValue) runValue {
	caller := r.variables
	r.variables = map[string]runValue{}
	for i, v := range args {
		r.variables[f.Kids[i].Name] = v
	}
	l := f.Kids[len(args)].Kids
	r.block(l[:len(l)-1])
	v := r.expression(l[len(l)-1].Kids[0])
	r.variables = caller
	return v
}

// logOf is what a run does, and whether it comes to an end.
func logOf(input []byte, fuel int, run func(w *world)) (log []string, ends bool) {
	w := &world{input: input, cells: map[[2]uint64]uint64{}, fuel: fuel}
	defer func() {
		if reason := recover(); reason != nil {
			_ = reason.(stopped)
			log, ends = w.log, w.fuel >= 0
		}
	}()
	run(w)
	panic("the run does not stop")
}

// expectMeaning fails the test unless code does the same as a tree, for an input. It reports whether it comes to an end.
func expectMeaning(t *testing.T, n api.Node, c api.Code, input []byte) bool {
	t.Helper()
	const fuel = 1500
	want, ends := logOf(input, fuel, func(w *world) { runTree(w, n) })
	got, codeEnds := logOf(input, 10*fuel, func(w *world) { runCode(w, c) })
	// Where the tree goes on forever, the code goes on further than the tree.
	if ends && (!codeEnds || !slices.Equal(got, want)) || !ends && (len(got) < len(want) || !slices.Equal(got[:len(want)], want)) {
		t.Fatalf("%v\n%s\n%v:\n%v\nwant\n%v", n, listing(c, noPlace), input, got, want)
	}
	return ends
}

// P7.1 (and T9): code does what the program does.
func TestMeaning(t *testing.T) {
	r := rand.New(rand.NewSource(30))
	ended, steps := map[bool]int{}, 0
	for _, s := range append(samples(t, 31, 1500), sampled{full, treeOf(t, full), codeOfSource(t, full)}) {
		for range 6 {
			input := make([]byte, r.Intn(6))
			for i := range input {
				input[i] = byte(pick(r, []int{0, 1, 2, 3, 255, r.Intn(256)}))
			}
			ended[expectMeaning(t, s.tree, s.code, input)]++
			log, _ := logOf(input, 1500, func(w *world) { runTree(w, s.tree) })
			steps += len(log)
		}
	}
	if ended[true] < 6000 || ended[false] < 100 || steps < 60000 {
		t.Error("the runs do little:", ended, steps)
	}
}
