package ssa_test

import (
	"fmt"
	"math/rand"
	"slices"

	"formfinder/api"
)

// block is the instructions and the end of a block.
type block struct {
	insts []api.Inst
	end   api.End
}

func blockOf(end api.End, insts ...api.Inst) block { return block{insts, end} }

// codeOf is code with two structs, two names, and these blocks.
func codeOf(blocks ...block) api.Code {
	c := api.Code{Structs: [][]int{{8, 16, 1}, {64}}, Names: []string{"a", "b"}}
	for _, b := range blocks {
		from := len(c.Insts)
		c.Insts = append(c.Insts, b.insts...)
		c.Blocks = append(c.Blocks, api.Block{From: from, Until: len(c.Insts), End: b.end})
	}
	return c
}

func constant(w int, n uint64) api.Inst { return api.Inst{Op: api.OpConst, W: w, N: n} }

func length() api.Inst { return api.Inst{Op: api.OpLen, W: 8} }

func binary(op, w, a, b int) api.Inst { return api.Inst{Op: op, W: w, A: a, B: b} }

func integer(w int) api.Inst { return api.Inst{Op: api.OpParam, W: w} }

func pointer(kind int) api.Inst { return api.Inst{Op: api.OpParam, P: kind} }

func emit(a int, name uint64) api.Inst { return api.Inst{Op: api.OpEmit, A: a, N: name} }

func jump(to int, args ...int) api.End { return api.End{Kind: api.EndJump, To: to, ToArgs: args} }

func branch(a, to, other int) api.End {
	return api.End{Kind: api.EndBranch, A: a, To: to, Else: other}
}

// branchWith is a branch that passes values on.
func branchWith(a, to int, toArgs []int, other int, elseArgs []int) api.End {
	return api.End{Kind: api.EndBranch, A: a, To: to, Else: other, ToArgs: toArgs, ElseArgs: elseArgs}
}

func accept() api.End { return api.End{Kind: api.EndAccept} }

func reject(n int) api.End { return api.End{Kind: api.EndReject, N: n} }

// clone is code that shares no memory with other code.
func clone(c api.Code) api.Code {
	structs := [][]int{}
	for _, s := range c.Structs {
		structs = append(structs, slices.Clone(s))
	}
	c.Structs, c.Names, c.Insts, c.Blocks = structs, slices.Clone(c.Names), slices.Clone(c.Insts), slices.Clone(c.Blocks)
	for i := range c.Blocks {
		e := &c.Blocks[i].End
		e.ToArgs, e.ElseArgs = slices.Clone(e.ToArgs), slices.Clone(e.ElseArgs)
	}
	return c
}

// changed is code with a change.
func changed(c api.Code, change func(c *api.Code)) api.Code {
	c = clone(c)
	change(&c)
	return c
}

// author writes random valid code. It makes instructions in any order, with the numbers in which it makes them as values, and numbers them in the end.
type author struct {
	r       *rand.Rand
	code    api.Code
	made    []api.Inst
	home    []int   // the block of each instruction
	insts   [][]int // of each block
	doms    [][]int // the blocks that dominate each block
	current int     // the block that is written
}

func pick[T any](r *rand.Rand, l []T) T { return l[r.Intn(len(l))] }

func (a *author) width() int { return pick(a.r, []int{1, 1, 8, 8, 8, 16, 64, 1 + a.r.Intn(64)}) }

// kind is a kind of pointer, or 0 now and then.
func (a *author) kind() int {
	if many := len(a.code.Structs); many > 0 && a.r.Intn(2) == 0 {
		return 65 + a.r.Intn(many)
	}
	return a.r.Intn(2) * a.width()
}

func (a *author) number(w int) uint64 {
	all := ^uint64(0) >> (64 - w)
	return pick(a.r, []uint64{0, 1, all, a.r.Uint64() & all, uint64(a.r.Intn(3)) & all})
}

// make adds an instruction to the block that is written.
func (a *author) make(n api.Inst) int {
	n.At = pick(a.r, []int{0, 1, 4000, a.r.Intn(4001)})
	id := len(a.made)
	a.made = append(a.made, n)
	a.home = append(a.home, a.current)
	a.insts[a.current] = append(a.insts[a.current], id)
	return id
}

// find is one of the values that can be used, and are as a function says.
func (a *author) find(fits func(n api.Inst) bool) (int, bool) {
	var l []int
	for id, n := range a.made {
		if slices.Contains(a.doms[a.current], a.home[id]) && fits(n) {
			l = append(l, id)
		}
	}
	if len(l) == 0 {
		return 0, false
	}
	return pick(a.r, l), true
}

// integer is an integer of a width, and of a random one if this is 0.
func (a *author) integer(w int) int {
	id, found := a.find(func(n api.Inst) bool { return n.W != 0 && (w == 0 || n.W == w) })
	if found && a.r.Intn(8) > 0 {
		return id
	}
	if w == 0 {
		w = a.width()
	}
	if w == 8 && a.r.Intn(2) == 0 {
		return a.make(length())
	}
	return a.make(constant(w, a.number(w)))
}

// pointer is a pointer of a kind.
func (a *author) pointer(kind int) int {
	if id, found := a.find(func(n api.Inst) bool { return n.P == kind }); found && a.r.Intn(8) > 0 {
		return id
	}
	if kind > 64 {
		return a.make(api.Inst{Op: api.OpMake, P: kind, N: uint64(kind - 65)})
	}
	return a.make(api.Inst{Op: api.OpNew, P: kind, A: a.integer(0), N: uint64(kind)})
}

// anyPointer is a pointer of a random kind.
func (a *author) anyPointer() int {
	for {
		if kind := a.kind(); kind > 0 {
			return a.pointer(kind)
		}
	}
}

// value is a value like a parameter.
func (a *author) value(param api.Inst) int {
	if param.P > 0 {
		return a.pointer(param.P)
	}
	return a.integer(param.W)
}

// cell is a random pointer with an index that it can have, and the width of the cell.
func (a *author) cell() (pointer, index, w int) {
	pointer = a.anyPointer()
	kind := a.made[pointer].P
	if kind <= 64 {
		return pointer, a.integer(0), kind
	}
	cells := a.code.Structs[kind-65]
	index, found := a.find(func(n api.Inst) bool { return n.Op == api.OpConst && n.N < uint64(len(cells)) })
	if !found || a.r.Intn(3) == 0 {
		index = a.make(constant(pick(a.r, []int{4, 8, 64}), uint64(a.r.Intn(len(cells)))))
	}
	return pointer, index, cells[a.made[index].N]
}

// instruction makes a random instruction, but for OpParam.
func (a *author) instruction() {
	switch op := pick(a.r, operators); op {
	case api.OpConst:
		w := a.width()
		a.make(constant(w, a.number(w)))
	case api.OpNot:
		x := a.integer(0)
		a.make(api.Inst{Op: op, W: a.made[x].W, A: x})
	case api.OpZext, api.OpSext:
		x := a.integer(0)
		w := a.made[x].W
		a.make(api.Inst{Op: op, W: w + a.r.Intn(65-w), A: x})
	case api.OpPart:
		x := a.integer(0)
		w := 1 + a.r.Intn(a.made[x].W)
		a.make(api.Inst{Op: op, W: w, A: x, N: uint64(a.r.Intn(a.made[x].W - w + 1))})
	case api.OpJoin:
		x, y := a.integer(0), a.integer(0)
		if w := a.made[x].W + a.made[y].W; w <= 64 {
			a.make(binary(op, w, x, y))
		}
	case api.OpByte:
		a.make(api.Inst{Op: op, W: 8, A: a.integer(0)})
	case api.OpLen:
		a.make(length())
	case api.OpNew, api.OpMake:
		a.anyPointer()
	case api.OpLoad:
		p, i, w := a.cell()
		a.make(api.Inst{Op: op, W: w, A: p, B: i})
	case api.OpPut:
		p, i, w := a.cell()
		a.make(api.Inst{Op: op, A: p, B: i, C: a.integer(w)})
	case api.OpFree:
		a.make(api.Inst{Op: op, A: a.anyPointer()})
	case api.OpEmit:
		if many := len(a.code.Names); many > 0 {
			a.make(emit(a.integer(0), uint64(a.r.Intn(many))))
		}
	default:
		x := a.integer(0)
		w := a.made[x].W
		y := a.integer(w)
		if op >= api.OpEq {
			w = 1
		}
		a.make(binary(op, w, x, y))
	}
}

// operators are all operators of instructions, but OpParam.
var operators = []int{
	api.OpConst, api.OpAdd, api.OpSub, api.OpMul, api.OpDiv, api.OpRem, api.OpAnd, api.OpOr, api.OpXor, api.OpShl, api.OpShr, api.OpEq, api.OpLt, api.OpSlt, api.OpNot, api.OpZext, api.OpSext, api.OpPart, api.OpJoin, api.OpByte, api.OpLen,
	api.OpNew, api.OpMake, api.OpLoad, api.OpPut, api.OpFree, api.OpEmit,
}

// lists are random structs and names.
func (a *author) lists() {
	for range a.r.Intn(4) {
		cells := []int{}
		for range 1 + a.r.Intn(4) {
			cells = append(cells, a.width())
		}
		a.code.Structs = append(a.code.Structs, cells)
	}
	for i := range a.r.Intn(4) {
		a.code.Names = append(a.code.Names, fmt.Sprint(pick(a.r, []string{"a", "len", "u100", "parse", "x1"}), i))
	}
}

// graph is as many blocks, all of which can be reached, with random edges; it writes the kinds of their ends, To, Else, and At.
func (a *author) graph(many int) {
	edges := make([][]int, many)
	free := func(below int) []int {
		var l []int
		for i := range below {
			if len(edges[i]) < 2 {
				l = append(l, i)
			}
		}
		return l
	}
	numbers := append([]int{0}, slices.DeleteFunc(a.r.Perm(many), func(n int) bool { return n == 0 })...)
	for i := 1; i < many; i++ {
		from := pick(a.r, free(i))
		edges[from] = append(edges[from], i)
	}
	if many > 1 {
		for range a.r.Intn(many) {
			from := pick(a.r, free(many))
			edges[from] = append(edges[from], 1+a.r.Intn(many-1))
		}
	}
	a.code.Blocks = make([]api.Block, many)
	for i, l := range edges {
		a.r.Shuffle(len(l), func(i, j int) { l[i], l[j] = l[j], l[i] })
		e := &a.code.Blocks[numbers[i]].End
		switch e.At = a.r.Intn(4001); len(l) {
		case 0:
			e.Kind = pick(a.r, []int{api.EndAccept, api.EndReject})
			if e.Kind == api.EndReject {
				e.N = a.r.Intn(256)
			}
		case 1:
			e.Kind, e.To = api.EndJump, numbers[l[0]]
		case 2:
			e.Kind, e.To, e.Else = api.EndBranch, numbers[l[0]], numbers[l[1]]
		}
	}
}

// parameters makes random parameters of all blocks but the block 0.
func (a *author) parameters() {
	for i := 1; i < len(a.code.Blocks); i++ {
		a.current = i
		for range a.r.Intn(4) {
			if kind := a.kind(); kind > 0 && a.r.Intn(2) == 0 {
				a.make(pointer(kind))
			} else {
				a.make(integer(a.width()))
			}
		}
	}
}

// write writes a block, with about as many instructions.
func (a *author) write(i, many int) {
	a.current = i
	for range many {
		a.instruction()
	}
	e := &a.code.Blocks[i].End
	args := func(to int) []int {
		var l []int
		for _, id := range a.insts[to] {
			if n := a.made[id]; n.Op == api.OpParam {
				l = append(l, a.value(n))
			}
		}
		return l
	}
	switch e.Kind {
	case api.EndJump:
		e.ToArgs = args(e.To)
	case api.EndBranch:
		e.A, e.ToArgs, e.ElseArgs = a.integer(1), args(e.To), args(e.Else)
	}
}

// numberAll gives the instructions their numbers.
func (a *author) numberAll() {
	numbers := make([]int, len(a.made))
	for i, ids := range a.insts {
		a.code.Blocks[i].From = len(a.code.Insts)
		for _, id := range ids {
			numbers[id] = len(a.code.Insts)
			a.code.Insts = append(a.code.Insts, a.made[id])
		}
		a.code.Blocks[i].Until = len(a.code.Insts)
	}
	for _, p := range usePlaces(&a.code) {
		*p.value = numbers[*p.value]
	}
}

// randomCode is valid code with as many blocks, and about as many instructions of each one.
func randomCode(r *rand.Rand, blocks, insts int) api.Code {
	a := &author{r: r, insts: make([][]int, blocks)}
	a.lists()
	a.graph(blocks)
	a.doms = dominatorsOf(a.code)
	a.parameters()
	order := make([]int, blocks)
	for i := range order {
		order[i] = i
	}
	// what dominates a block has fewer dominators
	slices.SortStableFunc(order, func(i, j int) int { return len(a.doms[i]) - len(a.doms[j]) })
	for _, i := range order {
		a.write(i, r.Intn(insts+1))
	}
	a.numberAll()
	return a.code
}

// codes are as many random valid ones, of all sizes up to about ten blocks.
func codes(seed int64, many int) []api.Code {
	r := rand.New(rand.NewSource(seed))
	var l []api.Code
	for i := range many {
		l = append(l, randomCode(r, 1+i%11, r.Intn(7)))
	}
	return l
}
