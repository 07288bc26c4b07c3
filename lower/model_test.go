package lower_test

import (
	"fmt"
	"slices"
	"testing"

	"formfinder/api"
	"formfinder/check"
	"formfinder/lower"
)

// The model works in three passes: the calls are replaced by what is in the functions, with all variables and values as names (steps); these become instructions and blocks that refer to each other by pointers (mInst, mBlock); and in the end these are numbered.

// step is what is done with names: what they stand for is found when it becomes code.
type step struct {
	kind     string // inst, copy, count, end, if or while
	node     api.Node
	inst     api.Inst
	args     []string
	to       string // the name that gets a value
	emits    string // the name that is stored
	end      api.End
	first    []*step // of the condition of a while
	parts    [][]*step
	visible  []string // before an if or a while
	inBlocks []string // of these, what is changed in the blocks
}

// kindOf is the width and the kind of pointer of a value.
type kindOf struct{ w, p int }

// flattener makes steps of nodes.
type flattener struct {
	structs []api.Node
	funcs   map[string]api.Node
	kinds   map[string]kindOf
	many    int // names, so that each is new
	steps   int
	visible []string // in the function
	frame   string
}

const mostSteps = 30000

func (f *flattener) fresh(k kindOf) string {
	f.many++
	name := fmt.Sprint("t", f.many)
	f.kinds[name] = k
	return name
}

// local is the name of a variable of the function.
func (f *flattener) local(name string) string { return f.frame + "/" + name }

func (f *flattener) declare(name string, k kindOf) string {
	f.kinds[f.local(name)] = k
	f.visible = append(f.visible, f.local(name))
	return f.local(name)
}

// inst is a step with a new name.
func (f *flattener) inst(n api.Node, i api.Inst, args ...string) ([]*step, string) {
	f.steps++
	i.At = n.At
	to := f.fresh(kindOf{i.W, i.P})
	return []*step{{kind: "inst", inst: i, args: args, to: to}}, to
}

func copyTo(to, from string) *step { return &step{kind: "copy", to: to, args: []string{from}} }

// part is the number of a field and its width.
func (f *flattener) part(n api.Node) (i, w int) {
	s := f.structs[f.kinds[f.local(n.Name)].p-65]
	for i, field := range s.Kids {
		if field.Name == n.Part {
			return i, field.W
		}
	}
	panic("no field")
}

func (f *flattener) expression(n api.Node) ([]*step, string) {
	var l []*step
	var args []string
	for _, kid := range n.Kids {
		steps, name := f.expression(kid)
		l, args = append(l, steps...), append(args, name)
	}
	finish := func(i api.Inst, args ...string) ([]*step, string) {
		more, name := f.inst(n, i, args...)
		l = append(l, more...)
		return l, name
	}
	w := 0
	if len(args) > 0 {
		w = f.kinds[args[0]].w
	}
	variable := f.local(n.Name)
	switch n.Kind {
	case api.NodeNumber:
		return finish(api.Inst{Op: api.OpConst, W: n.W, N: n.N})
	case api.NodeLen:
		return finish(api.Inst{Op: api.OpLen, W: 8})
	case api.NodeVar:
		to := f.fresh(f.kinds[variable])
		return append(l, copyTo(to, variable)), to
	case api.NodeIn:
		return finish(api.Inst{Op: api.OpByte, W: 8}, args[0])
	case api.NodeCell:
		return finish(api.Inst{Op: api.OpLoad, W: f.kinds[variable].p}, variable, args[0])
	case api.NodePart:
		i, w := f.part(n)
		_, index := finish(api.Inst{Op: api.OpConst, W: 8, N: uint64(i)})
		return finish(api.Inst{Op: api.OpLoad, W: w}, variable, index)
	case api.NodeNot:
		return finish(api.Inst{Op: api.OpNot, W: w}, args[0])
	case api.NodeCast, api.NodeSext:
		if n.W == w {
			return l, args[0]
		}
		op := api.OpPart
		if n.W > w {
			op = map[int]int{api.NodeCast: api.OpZext, api.NodeSext: api.OpSext}[n.Kind]
		}
		return finish(api.Inst{Op: op, W: n.W}, args[0])
	case api.NodeCall:
		more, name := f.call(n, args)
		return append(l, more...), name
	}
	if n.N <= api.SignShr {
		ops := []int{api.OpAdd, api.OpSub, api.OpMul, api.OpDiv, api.OpRem, api.OpAnd, api.OpOr, api.OpXor, api.OpShl, api.OpShr}
		return finish(api.Inst{Op: ops[n.N-api.SignAdd], W: w}, args...)
	}
	op := map[uint64]int{api.SignEq: api.OpEq, api.SignNe: api.OpEq, api.SignSlt: api.OpSlt}[n.N]
	if op == 0 {
		op = api.OpLt
	}
	if n.N == api.SignGt || n.N == api.SignLe {
		slices.Reverse(args)
	}
	_, name := finish(api.Inst{Op: op, W: 1}, args...)
	if n.N == api.SignNe || n.N == api.SignLe || n.N == api.SignGe {
		_, name = finish(api.Inst{Op: api.OpNot, W: 1}, name)
	}
	return l, name
}

// call is what is in a function, with names that are only there.
func (f *flattener) call(n api.Node, args []string) ([]*step, string) {
	l := []*step{{kind: "count"}}
	if f.steps > mostSteps {
		return l, f.fresh(kindOf{f.funcs[n.Name].W, 0})
	}
	frame, visible := f.frame, f.visible
	f.many++
	f.frame, f.visible = fmt.Sprint("f", f.many), nil
	body := f.funcs[n.Name]
	for i, p := range body.Kids[:len(args)] {
		l = append(l, copyTo(f.declare(p.Name, kindOf{w: p.W}), args[i]))
	}
	statements := body.Kids[len(args)].Kids
	for _, s := range statements[:len(statements)-1] {
		l = append(l, f.statement(s)...)
	}
	more, name := f.expression(statements[len(statements)-1].Kids[0])
	f.frame, f.visible = frame, visible
	return append(l, more...), name
}

func (f *flattener) block(n api.Node) []*step {
	visible := len(f.visible)
	var l []*step
	for _, s := range n.Kids {
		l = append(l, f.statement(s)...)
	}
	f.visible = f.visible[:visible:visible]
	return l
}

func (f *flattener) statement(n api.Node) []*step {
	f.steps++
	switch n.Kind {
	case api.NodeIf, api.NodeWhile:
		s := &step{kind: map[int]string{api.NodeIf: "if", api.NodeWhile: "while"}[n.Kind], node: n, visible: slices.Clone(f.visible)}
		condition, name := f.expression(n.Kids[0])
		s.args = []string{name}
		for _, block := range n.Kids[1:] {
			s.parts = append(s.parts, f.block(block))
		}
		for _, name := range f.visible {
			if f.isChanged(name, n) {
				s.inBlocks = append(s.inBlocks, name)
			}
		}
		if n.Kind == api.NodeIf {
			return append(condition, s)
		}
		s.first = condition
		return []*step{s}
	case api.NodeAccept:
		return []*step{{kind: "end", end: api.End{Kind: api.EndAccept, At: n.At}}}
	case api.NodeReject:
		return []*step{{kind: "end", end: api.End{Kind: api.EndReject, N: int(n.N), At: n.At}}}
	case api.NodeFree:
		l, _ := f.inst(n, api.Inst{Op: api.OpFree}, f.local(n.Name))
		return l
	case api.NodeSame:
		return []*step{copyTo(f.local(n.Name), f.local(n.Part))}
	case api.NodeMake:
		i := slices.IndexFunc(f.structs, func(s api.Node) bool { return s.Name == n.Part })
		l, name := f.inst(n, api.Inst{Op: api.OpMake, P: 65 + i, N: uint64(i)})
		return append(l, copyTo(f.declare(n.Name, kindOf{p: 65 + i}), name))
	}
	return f.withValues(n)
}

// withValues is a statement that begins with values.
func (f *flattener) withValues(n api.Node) []*step {
	var l []*step
	var args []string
	if n.Kind == api.NodePutPart {
		i, _ := f.part(n)
		steps, name := f.inst(n, api.Inst{Op: api.OpConst, W: 8, N: uint64(i)})
		l, args = append(l, steps...), append(args, name)
	}
	for _, kid := range n.Kids {
		steps, name := f.expression(kid)
		l, args = append(l, steps...), append(args, name)
	}
	switch n.Kind {
	case api.NodeLet:
		return append(l, copyTo(f.declare(n.Name, f.kinds[args[0]]), args[0]))
	case api.NodeSet:
		return append(l, copyTo(f.local(n.Name), args[0]))
	case api.NodePut, api.NodePutPart:
		more, _ := f.inst(n, api.Inst{Op: api.OpPut}, f.local(n.Name), args[0], args[1])
		return append(l, more...)
	case api.NodeNew:
		more, name := f.inst(n, api.Inst{Op: api.OpNew, P: n.W, N: uint64(n.W)}, args[0])
		return append(append(l, more...), copyTo(f.declare(n.Name, kindOf{p: n.W}), name))
	case api.NodeEmit:
		more, _ := f.inst(n, api.Inst{Op: api.OpEmit}, args[0])
		more[0].emits = n.Name
		return append(l, more...)
	}
	panic("no statement")
}

// isChanged reports whether there is a set or a same of a variable in the blocks of a node.
func (f *flattener) isChanged(name string, n api.Node) bool {
	return slices.ContainsFunc(nodesOf(&n), func(k *api.Node) bool {
		return (k.Kind == api.NodeSet || k.Kind == api.NodeSame) && f.local(k.Name) == name
	})
}

// mInst is an instruction, mEdge a way to a block, and mBlock a block.
type mInst struct {
	api.Inst
	args   []*mInst
	emits  string
	number int
}

type mEdge struct {
	to   *mBlock
	args []*mInst
}

type mBlock struct {
	insts  []*mInst
	end    api.End
	on     *mInst
	edges  []mEdge
	number int
}

// builder makes blocks of steps.
type builder struct {
	blocks []*mBlock
	now    *mBlock // nil if none is open
	values map[string]*mInst
	calls  int
}

func (b *builder) begin() *mBlock {
	b.now = &mBlock{number: len(b.blocks)}
	b.blocks = append(b.blocks, b.now)
	return b.now
}

// close ends the block that is open.
func (b *builder) close(e api.End, on *mInst) *mBlock {
	block := b.now
	block.end, block.on = e, on
	b.now = nil
	return block
}

func (b *builder) inst(i api.Inst, emits string, args []*mInst) *mInst {
	n := &mInst{Inst: i, args: args, emits: emits}
	b.now.insts = append(b.now.insts, n)
	return n
}

func (b *builder) find(names []string) []*mInst {
	var l []*mInst
	for _, name := range names {
		l = append(l, b.values[name])
	}
	return l
}

func (b *builder) run(l []*step) {
	for _, s := range l {
		if b.now == nil {
			return
		}
		switch s.kind {
		case "inst":
			b.values[s.to] = b.inst(s.inst, s.emits, b.find(s.args))
		case "copy":
			b.values[s.to] = b.values[s.args[0]]
		case "count":
			b.calls++
		case "end":
			b.close(s.end, nil)
		case "if":
			b.choose(s)
		case "while":
			b.repeat(s)
		}
	}
}

// restore makes values those that they were for some names.
func (b *builder) restore(names []string, values []*mInst) {
	for i, name := range names {
		b.values[name] = values[i]
	}
}

func (b *builder) choose(s *step) {
	fork := b.close(api.End{Kind: api.EndBranch, At: s.node.At}, b.values[s.args[0]])
	before := b.find(s.visible)
	var froms []*mBlock
	var all [][]*mInst
	for _, part := range s.parts {
		b.restore(s.visible, before)
		fork.edges = append(fork.edges, mEdge{to: b.begin()})
		b.run(part)
		if b.now != nil {
			all = append(all, b.find(s.visible))
			froms = append(froms, b.close(api.End{Kind: api.EndJump, At: s.node.At}, nil))
		}
	}
	if len(s.parts) == 1 {
		froms, all = append(froms, fork), append(all, before)
	}
	if len(froms) == 0 {
		return
	}
	join := b.begin()
	args := make([][]*mInst, len(froms))
	for i, name := range s.visible {
		b.values[name] = all[0][i]
		if slices.ContainsFunc(all, func(l []*mInst) bool { return l[i] != all[0][i] }) {
			b.values[name] = b.inst(api.Inst{Op: api.OpParam, W: all[0][i].W, P: all[0][i].P, At: s.node.At}, "", nil)
			for j := range all {
				args[j] = append(args[j], all[j][i])
			}
		}
	}
	for j, from := range froms {
		from.edges = append(from.edges, mEdge{join, args[j]})
	}
}

func (b *builder) repeat(s *step) {
	jump := api.End{Kind: api.EndJump, At: s.node.At}
	into := b.close(jump, nil)
	header := b.begin()
	into.edges = []mEdge{{header, b.find(s.inBlocks)}}
	for _, name := range s.inBlocks {
		v := b.values[name]
		b.values[name] = b.inst(api.Inst{Op: api.OpParam, W: v.W, P: v.P, At: s.node.At}, "", nil)
	}
	b.run(s.first)
	if b.now == nil {
		return
	}
	fork := b.close(api.End{Kind: api.EndBranch, At: s.node.At}, b.values[s.args[0]])
	behind := b.find(s.visible)
	fork.edges = []mEdge{{to: b.begin()}}
	b.run(s.parts[0])
	if b.now != nil {
		b.close(jump, nil).edges = []mEdge{{header, b.find(s.inBlocks)}}
	}
	fork.edges = append(fork.edges, mEdge{to: b.begin()})
	b.restore(s.visible, behind)
}

func numbersOf(l []*mInst) []int {
	var numbers []int
	for _, n := range l {
		numbers = append(numbers, n.number)
	}
	return numbers
}

// code is what the blocks are with numbers.
func (b *builder) code() api.Code {
	var c api.Code
	many := 0
	for _, block := range b.blocks {
		for _, n := range block.insts {
			n.number = many
			many++
		}
	}
	for _, block := range b.blocks {
		from := len(c.Insts)
		for _, n := range block.insts {
			for i, v := range numbersOf(n.args) {
				*[]*int{&n.A, &n.B, &n.C}[i] = v
			}
			if n.emits != "" {
				if !slices.Contains(c.Names, n.emits) {
					c.Names = append(c.Names, n.emits)
				}
				n.N = uint64(slices.Index(c.Names, n.emits))
			}
			c.Insts = append(c.Insts, n.Inst)
		}
		e := block.end
		if block.on != nil {
			e.A = block.on.number
		}
		for i, edge := range block.edges {
			if i == 0 {
				e.To, e.ToArgs = edge.to.number, numbersOf(edge.args)
			} else {
				e.Else, e.ElseArgs = edge.to.number, numbersOf(edge.args)
			}
		}
		c.Blocks = append(c.Blocks, api.Block{From: from, Until: len(c.Insts), End: e})
	}
	return c
}

// model is what the chapter says of a tree. It returns false if the calls alone are too much for it.
func model(n api.Node) (api.Code, api.Errno, bool) {
	if diags, e := check.Check(n); e != api.OK || len(diags) > 0 {
		return api.Code{}, api.ErrArg, true
	}
	f := &flattener{funcs: map[string]api.Node{}, kinds: map[string]kindOf{}, frame: "parse"}
	var structs [][]int
	for _, kid := range n.Kids {
		switch kid.Kind {
		case api.NodeStruct:
			f.structs = append(f.structs, kid)
			var widths []int
			for _, field := range kid.Kids {
				widths = append(widths, field.W)
			}
			structs = append(structs, widths)
		case api.NodeFunc:
			f.funcs[kid.Name] = kid
		}
	}
	parse := n.Kids[len(n.Kids)-1]
	steps := append(f.block(parse), &step{kind: "end", end: api.End{Kind: api.EndReject, At: parse.At}})
	if f.steps > mostSteps {
		return api.Code{}, api.OK, false
	}
	b := &builder{values: map[string]*mInst{}}
	b.begin()
	b.run(steps)
	c := b.code()
	c.Structs = structs
	if len(c.Blocks) > 400 || len(c.Insts) > 3000 || len(c.Names) > 32 || b.calls > 3000 {
		return api.Code{}, api.ErrLimit, true
	}
	return c, api.OK, true
}

// expectModel fails the test unless a tree has the code or the error that the model says, and returns the error.
func expectModel(t *testing.T, n api.Node) api.Errno {
	t.Helper()
	want, wantError, known := model(n)
	if !known {
		t.Fatalf("%v: the model does not know", n)
	}
	got, e := lower.Lower(n)
	if e != wantError || !equalCode(got, want) {
		place := func(at int) string { return fmt.Sprint("@", at) }
		t.Fatalf("%v:\nerror %d\n%s; want error %d\n%s", n, e, listing(got, place), wantError, listing(want, place))
	}
	return e
}
