package trace_test

import (
	"fmt"
	"math/rand"
	"slices"
	"testing"

	"formfinder/api"
	"formfinder/lower"
	"formfinder/parser"
	"formfinder/ssa"
	"formfinder/trace"
)

// block is the instructions and the end of a block.
type block struct {
	insts []api.Inst
	end   api.End
}

func blockOf(end api.End, insts ...api.Inst) block { return block{insts, end} }

// codeOf is code with two structs, two names, and these blocks. The instruction i has the place 10 + i, the end of the block k the place 1000 + k.
func codeOf(blocks ...block) api.Code {
	c := api.Code{Structs: [][]int{{8, 16, 1}, {64}}, Names: []string{"a", "b"}}
	for k, b := range blocks {
		from := len(c.Insts)
		c.Insts = append(c.Insts, b.insts...)
		b.end.At = 1000 + k
		c.Blocks = append(c.Blocks, api.Block{From: from, Until: len(c.Insts), End: b.end})
	}
	for i := range c.Insts {
		c.Insts[i].At = 10 + i
	}
	return c
}

func constant(w int, n uint64) api.Inst { return api.Inst{Op: api.OpConst, W: w, N: n} }

func length() api.Inst { return api.Inst{Op: api.OpLen, W: 8} }

func byteAt(a int) api.Inst { return api.Inst{Op: api.OpByte, W: 8, A: a} }

func binary(op, w, a, b int) api.Inst { return api.Inst{Op: op, W: w, A: a, B: b} }

func integer(w int) api.Inst { return api.Inst{Op: api.OpParam, W: w} }

func pointer(kind int) api.Inst { return api.Inst{Op: api.OpParam, P: kind} }

func array(w, many int) api.Inst { return api.Inst{Op: api.OpNew, P: w, A: many, N: uint64(w)} }

func structure(k int) api.Inst { return api.Inst{Op: api.OpMake, P: 65 + k, N: uint64(k)} }

func load(w, a, b int) api.Inst { return api.Inst{Op: api.OpLoad, W: w, A: a, B: b} }

func put(a, b, c int) api.Inst { return api.Inst{Op: api.OpPut, A: a, B: b, C: c} }

func free(a int) api.Inst { return api.Inst{Op: api.OpFree, A: a} }

func emit(a int, name uint64) api.Inst { return api.Inst{Op: api.OpEmit, A: a, N: name} }

func jump(to int, args ...int) api.End { return api.End{Kind: api.EndJump, To: to, ToArgs: args} }

func branch(a, to, other int) api.End {
	return api.End{Kind: api.EndBranch, A: a, To: to, Else: other}
}

// branchWith is a branch that passes values on.
func branchWith(a, to int, toArgs []int, other int, elseArgs []int) api.End {
	return api.End{Kind: api.EndBranch, A: a, To: to, Else: other, ToArgs: toArgs, ElseArgs: elseArgs}
}

func accept() api.End { return api.End{Kind: api.EndAccept} }

func reject(n int) api.End { return api.End{Kind: api.EndReject, N: n} }

// codeOfSource is the code of a parser.
func codeOfSource(t *testing.T, source string) api.Code {
	t.Helper()
	tree, diags := parser.Parse(source)
	if len(diags) != 0 {
		t.Fatal(source, diags)
	}
	c, e := lower.Lower(tree)
	if e != api.OK {
		t.Fatal(source, e)
	}
	return c
}

// sources are parsers that use all of the language, with loops and memory.
func sources() []string {
	return []string{
		`parse { let x = in[0:u8]; if (x == 1:u8) { x = 2:u8; } emit a = x; accept; }`,
		`parse { let i = 0:u8; while (i < len) { if (in[i] == 3:u8) { i = (i + 1:u8); } i = (i + 1:u8); } accept; }`,
		`parse { let i = 0:u8; let s = 0:u16; while (i < len) { s = ((s * 3:u16) + u16(in[i])); emit s = s; i = (i + 1:u8); } if (s > 900:u16) { reject 7; } accept; }`,
		`struct pair { a: u8, b: u16 }
parse { make p : pair; p.a = in[0:u8]; p.b = (u16(p.a) << 4:u16); let i = 0:u8; while (i < p.a) { p.b = (p.b + sext u16(in[i])); i = (i + 1:u8); } emit a = p.a; emit b = p.b; free p; emit c = p.a; accept; }`,
		`parse { new p : u8[len]; let i = 0:u8; while (i < len) { p[i] = in[i]; i = (i + 1:u8); } while (0:u8 < i) { i = (i - 1:u8); emit v = p[i]; } accept; }`,
		`parse { new p : u8[in[0:u8]]; new q : u8[3:u8]; let i = 0:u8; while (i < 3:u8) { q[i] = i; p[i] = (i ^ 255:u8); same p = q; i = (i + 1:u8); if (i == in[1:u8]) { free q; } } emit x = p[in[2:u8]]; accept; }`,
		`parse { let i = 0:u8; while (i < in[0:u8]) { new p : u1[1:u8]; p[0:u8] = (i slt 3:u8); i = (i + 1:u8); emit b = p[0:u8]; } reject 255; }`,
		`func f(a: u8, b: u16) u16 { let c = (u16(a) + b); while (c > 100:u16) { c = (c - (c / 3:u16)); } return (c % 10:u16); }
parse { let x = f(in[0:u8], u16(in[1:u8])); emit x = f(in[1:u8], x); if (x >= 5:u16) { accept; } else { reject 3; } }`,
		`parse { let a = in[0:u8]; let b = in[1:u8]; while (a != b) { let c = a; a = b; b = (c & (a | 1:u8)); emit a = a; } accept; }`,
		`parse { while ~(len == 3:u8) { } accept; }`,
	}
}

// author writes random valid code, block by block: those that dominate a block come before it.
type author struct {
	r       *rand.Rand
	code    api.Code
	params  [][]api.Inst // of each block
	doms    [][]int      // the blocks that dominate each one
	current int          // the block that is written
}

func pick[T any](r *rand.Rand, l []T) T { return l[r.Intn(len(l))] }

func (a *author) width() int { return pick(a.r, []int{1, 1, 8, 8, 8, 16, 64, 1 + a.r.Intn(64)}) }

// kind is a kind of pointer.
func (a *author) kind() int {
	if many := len(a.code.Structs); many > 0 && a.r.Intn(2) == 0 {
		return 65 + a.r.Intn(many)
	}
	return a.width()
}

// number is mostly a small one, as indices must be small.
func (a *author) number(w int) uint64 {
	all := ^uint64(0) >> (64 - w)
	return all & pick(a.r, []uint64{0, 1, 2, 3, uint64(a.r.Intn(20)), a.r.Uint64(), all})
}

// make adds an instruction to the block that is written.
func (a *author) make(n api.Inst) int {
	n.At = pick(a.r, []int{0, 1, 4000, a.r.Intn(4001)})
	a.code.Insts = append(a.code.Insts, n)
	a.code.Blocks[a.current].Until = len(a.code.Insts)
	return len(a.code.Insts) - 1
}

// find is one of the values that can be used, and are as a function says.
func (a *author) find(fits func(n api.Inst) bool) (int, bool) {
	var l []int
	for _, k := range a.doms[a.current] {
		for id := a.code.Blocks[k].From; id < a.code.Blocks[k].Until; id++ {
			if fits(a.code.Insts[id]) {
				l = append(l, id)
			}
		}
	}
	if len(l) == 0 {
		return 0, false
	}
	return pick(a.r, l), true
}

// integer is an integer of a width, and of a random one if this is 0.
func (a *author) integer(w int) int {
	id, found := a.find(func(n api.Inst) bool { return n.W != 0 && (w == 0 || n.W == w) })
	if found && a.r.Intn(5) > 0 {
		return id
	}
	return a.small(w)
}

// small is a new integer, often a small one.
func (a *author) small(w int) int {
	if w == 0 {
		w = a.width()
	}
	if w == 8 && a.r.Intn(4) == 0 {
		return a.make(length())
	}
	return a.make(constant(w, a.number(w)))
}

// index is an index of a byte or a cell, or a number of cells.
func (a *author) index() int {
	if a.r.Intn(4) == 0 {
		return a.integer(0)
	}
	return a.make(constant(8, uint64(a.r.Intn(4))))
}

// pointer is a pointer of a kind.
func (a *author) pointer(kind int) int {
	if id, found := a.find(func(n api.Inst) bool { return n.P == kind }); found && a.r.Intn(8) > 0 {
		return id
	}
	if kind > 64 {
		return a.make(structure(kind - 65))
	}
	return a.make(array(kind, a.index()))
}

// value is a value like a parameter.
func (a *author) value(param api.Inst) int {
	if param.P > 0 {
		return a.pointer(param.P)
	}
	return a.integer(param.W)
}

// cell is a pointer with an index that it can have, and the width of the cell.
func (a *author) cell() (pointer, index, w int) {
	pointer = a.pointer(a.kind())
	kind := a.code.Insts[pointer].P
	if kind <= 64 {
		return pointer, a.index(), kind
	}
	cells := a.code.Structs[kind-65]
	n := a.r.Intn(len(cells))
	return pointer, a.make(constant(8, uint64(n))), cells[n]
}

// instruction makes a random instruction, but for OpParam.
func (a *author) instruction() {
	switch op := pick(a.r, operators); op {
	case api.OpConst:
		a.small(0)
	case api.OpNot:
		x := a.integer(0)
		a.make(api.Inst{Op: op, W: a.code.Insts[x].W, A: x})
	case api.OpZext, api.OpSext:
		x := a.integer(0)
		w := a.code.Insts[x].W
		a.make(api.Inst{Op: op, W: w + a.r.Intn(65-w), A: x})
	case api.OpPart:
		x := a.integer(0)
		w := 1 + a.r.Intn(a.code.Insts[x].W)
		a.make(api.Inst{Op: op, W: w, A: x, N: uint64(a.r.Intn(a.code.Insts[x].W - w + 1))})
	case api.OpJoin:
		x, y := a.integer(0), a.integer(0)
		if w := a.code.Insts[x].W + a.code.Insts[y].W; w <= 64 {
			a.make(binary(op, w, x, y))
		}
	case api.OpByte:
		a.make(byteAt(a.index()))
	case api.OpLen:
		a.make(length())
	case api.OpNew, api.OpMake:
		a.pointer(a.kind())
	case api.OpLoad:
		p, i, w := a.cell()
		if a.r.Intn(4) > 0 {
			a.make(put(p, i, a.integer(w)))
		}
		a.make(load(w, p, i))
	case api.OpPut:
		p, i, w := a.cell()
		a.make(put(p, i, a.integer(w)))
	case api.OpFree:
		if p := a.pointer(a.kind()); a.r.Intn(2) == 0 {
			a.make(free(p))
			if a.r.Intn(4) == 0 {
				a.make(free(p))
			}
		}
	case api.OpEmit:
		if many := len(a.code.Names); many > 0 {
			a.make(emit(a.integer(0), uint64(a.r.Intn(many))))
		}
	default:
		x := a.integer(0)
		w := a.code.Insts[x].W
		y := a.integer(w)
		if op >= api.OpEq {
			w = 1
		}
		a.make(binary(op, w, x, y))
	}
}

// operators are all operators of instructions, but OpParam.
var operators = []int{
	api.OpConst, api.OpAdd, api.OpSub, api.OpMul, api.OpDiv, api.OpRem, api.OpAnd, api.OpOr, api.OpXor, api.OpShl, api.OpShr, api.OpEq, api.OpLt, api.OpSlt, api.OpNot, api.OpZext, api.OpSext, api.OpPart, api.OpJoin, api.OpByte, api.OpLen,
	api.OpNew, api.OpMake, api.OpLoad, api.OpPut, api.OpFree, api.OpEmit,
}

// lists are random structs and names.
func (a *author) lists() {
	for range a.r.Intn(4) {
		cells := []int{}
		for range 1 + a.r.Intn(4) {
			cells = append(cells, a.width())
		}
		a.code.Structs = append(a.code.Structs, cells)
	}
	for i := range a.r.Intn(4) {
		a.code.Names = append(a.code.Names, fmt.Sprint("x", i))
	}
}

// graph is as many blocks, each of which can be reached by lesser ones.
func (a *author) graph(many int) {
	edges := make([][]int, many)
	free := func(below int) int {
		for {
			if i := a.r.Intn(below); len(edges[i]) < 2 {
				return i
			}
		}
	}
	for i := 1; i < many; i++ {
		from := free(i)
		edges[from] = append(edges[from], i)
	}
	if many > 1 {
		for range a.r.Intn(many) {
			from := free(many)
			edges[from] = append(edges[from], 1+a.r.Intn(many-1))
		}
	}
	a.code.Blocks = make([]api.Block, many)
	for i, l := range edges {
		a.r.Shuffle(len(l), func(i, j int) { l[i], l[j] = l[j], l[i] })
		e := &a.code.Blocks[i].End
		switch len(l) {
		case 0:
			*e = pick(a.r, []api.End{accept(), reject(a.r.Intn(256))})
		case 1:
			*e = jump(l[0])
		case 2:
			*e = branch(0, l[0], l[1])
		}
		e.At = a.r.Intn(4001)
	}
}

// dominators finds the blocks without which a block cannot be reached.
func (a *author) dominators() {
	a.doms = make([][]int, len(a.code.Blocks))
	for without := range a.code.Blocks {
		reached := make([]bool, len(a.code.Blocks))
		var enter func(k int)
		enter = func(k int) {
			if k == without || reached[k] {
				return
			}
			reached[k] = true
			for _, to := range successors(a.code.Blocks[k].End) {
				enter(to)
			}
		}
		enter(0)
		for k, r := range reached {
			if !r {
				a.doms[k] = append(a.doms[k], without)
			}
		}
	}
}

func successors(e api.End) []int {
	switch e.Kind {
	case api.EndJump:
		return []int{e.To}
	case api.EndBranch:
		return []int{e.To, e.Else}
	}
	return nil
}

// parameters chooses random parameters of all blocks but the block 0.
func (a *author) parameters() {
	a.params = make([][]api.Inst, len(a.code.Blocks))
	for k := range a.params {
		for range a.r.Intn(4) {
			p := integer(a.width())
			if a.r.Intn(4) == 0 {
				p = pointer(a.kind())
			}
			if k > 0 {
				a.params[k] = append(a.params[k], p)
			}
		}
	}
}

// write writes a block, with about as many instructions.
func (a *author) write(k, many int) {
	a.current = k
	a.code.Blocks[k].From, a.code.Blocks[k].Until = len(a.code.Insts), len(a.code.Insts)
	for _, p := range a.params[k] {
		a.make(p)
	}
	for range many {
		a.instruction()
	}
	args := func(to int) []int {
		var l []int
		for _, p := range a.params[to] {
			l = append(l, a.value(p))
		}
		return l
	}
	switch e := a.code.Blocks[k].End; e.Kind {
	case api.EndJump:
		e.ToArgs = args(e.To)
		a.code.Blocks[k].End = e
	case api.EndBranch:
		e.A, e.ToArgs, e.ElseArgs = a.integer(1), args(e.To), args(e.Else)
		a.code.Blocks[k].End = e
	}
}

// randomCode is valid code with as many blocks, and about as many instructions of each one.
func randomCode(r *rand.Rand, blocks, insts int) api.Code {
	a := &author{r: r}
	a.lists()
	a.graph(blocks)
	a.dominators()
	a.parameters()
	for k := range blocks {
		a.write(k, r.Intn(insts+1))
	}
	return a.code
}

// randomInput is an input whose bytes are often small.
func randomInput(r *rand.Rand) []byte {
	input := make([]byte, pick(r, []int{0, 1, 2, 3, 4, 5, r.Intn(20), r.Intn(65)}))
	for i := range input {
		input[i] = byte(pick(r, []int{0, 1, 2, 3, 4, r.Intn(20), r.Intn(256)}))
	}
	return input
}

// sample is code with an input.
type sample struct {
	code  api.Code
	input []byte
}

// samples are random code, and that of the sources, with random inputs.
func samples(t *testing.T, seed int64, many int) []sample {
	t.Helper()
	r := rand.New(rand.NewSource(seed))
	var l []sample
	for i := range many {
		c := randomCode(r, 1+i%9, r.Intn(7))
		if !ssa.Valid(c) {
			t.Fatal(c)
		}
		l = append(l, sample{c, randomInput(r)})
	}
	for _, s := range sources() {
		c := codeOfSource(t, s)
		for range max(1, many/40) {
			l = append(l, sample{c, randomInput(r)})
		}
	}
	return l
}

// cloneCode is code that shares no memory with other code.
func cloneCode(c api.Code) api.Code {
	var structs [][]int
	for _, s := range c.Structs {
		structs = append(structs, slices.Clone(s))
	}
	c.Structs, c.Names, c.Insts, c.Blocks = structs, slices.Clone(c.Names), slices.Clone(c.Insts), slices.Clone(c.Blocks)
	for i := range c.Blocks {
		e := &c.Blocks[i].End
		e.ToArgs, e.ElseArgs = slices.Clone(e.ToArgs), slices.Clone(e.ElseArgs)
	}
	return c
}

// text is a value as a text, in which nil slices and empty ones are alike.
func text(x any) string { return fmt.Sprintf("%+v", x) }

// same tells whether two values are equal.
func same(a, b any) bool { return text(a) == text(b) }

// goal is a goal without a fault.
func goal(kind, n int) api.Goal { return api.Goal{Kind: kind, N: n} }

// fault is the goal of a fault of an instruction.
func fault(n, code int) api.Goal { return api.Goal{Kind: api.GoalFault, N: n, Code: code} }

// goals are all goals of code.
func goals(t *testing.T, c api.Code) []api.Goal {
	t.Helper()
	l, e := trace.Goals(c)
	if e != api.OK {
		t.Fatal(c, e)
	}
	return l
}

// reached are the goals that a run reaches.
func reached(t *testing.T, c api.Code, input []byte, steps int) []api.Goal {
	t.Helper()
	l, e := trace.Reached(c, input, steps)
	if e != api.OK {
		t.Fatal(c, input, steps, e)
	}
	return l
}

// missed are the goals that no run reaches.
func missed(t *testing.T, c api.Code, inputs [][]byte, steps int) []api.Goal {
	t.Helper()
	l, e := trace.Missed(c, inputs, steps)
	if e != api.OK {
		t.Fatal(c, inputs, steps, e)
	}
	return l
}
