package ssa_test

import (
	"slices"
	"strings"

	"formfinder/api"
)

// The model follows the words of the chapter, one after the other.

// successors are those of a block, the two of a branch in order.
func successors(c api.Code, i int) []int {
	switch e := c.Blocks[i].End; e.Kind {
	case api.EndJump:
		return []int{e.To}
	case api.EndBranch:
		return []int{e.To, e.Else}
	}
	return nil
}

// reachable says of each block whether there is a way to it from the block 0 that does not pass through a block (-1: any way).
func reachable(c api.Code, without int) []bool {
	found := make([]bool, len(c.Blocks))
	if without == 0 {
		return found
	}
	found[0] = true
	for work := []int{0}; len(work) > 0; work = work[1:] {
		for _, s := range successors(c, work[0]) {
			if s != without && !found[s] {
				found[s] = true
				work = append(work, s)
			}
		}
	}
	return found
}

// dominatorsOf are the blocks that dominate each block: those without which there is no way to it.
func dominatorsOf(c api.Code) [][]int {
	doms := make([][]int, len(c.Blocks))
	for a := range c.Blocks {
		for b, found := range reachable(c, a) {
			if !found {
				doms[b] = append(doms[b], a)
			}
		}
	}
	return doms
}

// takes is how many values an operator has, in A, B and C.
func takes(op int) int {
	switch op {
	case api.OpConst, api.OpLen, api.OpParam, api.OpMake:
		return 0
	case api.OpNot, api.OpZext, api.OpSext, api.OpPart, api.OpByte, api.OpNew, api.OpFree, api.OpEmit:
		return 1
	case api.OpPut:
		return 3
	}
	return 2
}

// usePlace is a value that is used: in a block, by an instruction, or by the end (Until).
type usePlace struct {
	value      *int
	block, pos int
}

// usePlaces are all places of code where values are used.
func usePlaces(c *api.Code) []usePlace {
	var l []usePlace
	for i := range c.Blocks {
		b := &c.Blocks[i]
		for j := b.From; j < b.Until; j++ {
			n := &c.Insts[j]
			for _, v := range []*int{&n.A, &n.B, &n.C}[:takes(n.Op)] {
				l = append(l, usePlace{v, i, j})
			}
		}
		if b.End.Kind == api.EndBranch {
			l = append(l, usePlace{&b.End.A, i, b.Until})
		}
		for _, args := range [][]int{b.End.ToArgs, b.End.ElseArgs} {
			for k := range args {
				l = append(l, usePlace{&args[k], i, b.Until})
			}
		}
	}
	return l
}

func isWidth(w int) bool { return w >= 1 && w <= 64 }

func isKind(c api.Code, p int) bool { return isWidth(p) || p >= 65 && p < 65+len(c.Structs) }

const keyWords = " struct func parse let new make free same if else while emit accept reject return in len sext slt "

// isName is by all names that are none: types are tried one after the other.
func isName(s string) bool {
	if s == "" || len(s) > 12 || strings.Trim(s, "abcdefghijklmnopqrstuvwxyz0123456789") != "" || s[0] <= '9' {
		return false
	}
	return !strings.Contains(keyWords, " "+s+" ") && !slices.Contains(types, s)
}

// rule1 to rule6 are the numbered conditions of the chapter, each one for code for which those before it hold.
func rule1(c api.Code) bool {
	if len(c.Structs) > 8 || len(c.Names) > 32 || len(c.Blocks) < 1 || len(c.Blocks) > 400 || len(c.Insts) > 3000 {
		return false
	}
	for _, s := range c.Structs {
		if len(s) < 1 || len(s) > 16 {
			return false
		}
		for _, w := range s {
			if !isWidth(w) {
				return false
			}
		}
	}
	seen := map[string]bool{}
	for _, s := range c.Names {
		if seen[s] || !isName(s) {
			return false
		}
		seen[s] = true
	}
	return true
}

func rule2(c api.Code) bool {
	for i, b := range c.Blocks {
		if i == 0 && b.From != 0 || i > 0 && b.From != c.Blocks[i-1].Until || b.Until < b.From {
			return false
		}
	}
	return c.Blocks[len(c.Blocks)-1].Until == len(c.Insts)
}

// isPlain says that only fields of an instruction that are mentioned are other than 0.
func isPlain(n api.Inst, mentioned string) bool {
	if !strings.Contains(mentioned, "W") && n.W != 0 || !strings.Contains(mentioned, "P") && n.P != 0 || !strings.Contains(mentioned, "N") && n.N != 0 {
		return false
	}
	return (strings.Contains(mentioned, "A") || n.A == 0) && (strings.Contains(mentioned, "B") || n.B == 0) && (strings.Contains(mentioned, "C") || n.C == 0)
}

// has says that the indices of values are those of instructions.
func has(c api.Code, values ...int) bool {
	return !slices.ContainsFunc(values, func(v int) bool { return v < 0 || v >= len(c.Insts) })
}

// widthOf is the width of an integer, and -1 if a value is none.
func widthOf(c api.Code, v int) int {
	if w := c.Insts[v].W; isWidth(w) {
		return w
	}
	return -1
}

// cellOf is the width of the cell with an index, and -1 if there is none.
func cellOf(c api.Code, v, index int) int {
	p, i := c.Insts[v].P, c.Insts[index]
	if isWidth(p) {
		return p
	}
	if isKind(c, p) && i.Op == api.OpConst && i.N < uint64(len(c.Structs[p-65])) {
		return c.Structs[p-65][i.N]
	}
	return -1
}

// instRight says that an instruction is as the table says.
func instRight(c api.Code, n api.Inst) bool {
	switch n.Op {
	case api.OpConst:
		return isPlain(n, "WN") && isWidth(n.W) && (n.W == 64 || n.N < 1<<n.W)
	case api.OpAdd, api.OpSub, api.OpMul, api.OpDiv, api.OpRem, api.OpAnd, api.OpOr, api.OpXor, api.OpShl, api.OpShr:
		return isPlain(n, "ABW") && has(c, n.A, n.B) && n.W > 0 && widthOf(c, n.A) == n.W && widthOf(c, n.B) == n.W
	case api.OpEq, api.OpLt, api.OpSlt:
		return isPlain(n, "ABW") && has(c, n.A, n.B) && n.W == 1 && widthOf(c, n.A) > 0 && widthOf(c, n.B) == widthOf(c, n.A)
	case api.OpNot:
		return isPlain(n, "AW") && has(c, n.A) && n.W > 0 && widthOf(c, n.A) == n.W
	case api.OpZext, api.OpSext:
		return isPlain(n, "AW") && has(c, n.A) && widthOf(c, n.A) > 0 && n.W >= widthOf(c, n.A) && n.W <= 64
	case api.OpPart:
		return isPlain(n, "AWN") && has(c, n.A) && isWidth(n.W) && n.N <= 64 && int(n.N)+n.W <= widthOf(c, n.A)
	case api.OpJoin:
		return isPlain(n, "ABW") && has(c, n.A, n.B) && widthOf(c, n.A) > 0 && widthOf(c, n.B) > 0 && n.W == widthOf(c, n.A)+widthOf(c, n.B) && n.W <= 64
	case api.OpByte:
		return isPlain(n, "AW") && has(c, n.A) && widthOf(c, n.A) > 0 && n.W == 8
	case api.OpLen:
		return isPlain(n, "W") && n.W == 8
	case api.OpParam:
		return isPlain(n, "W") && isWidth(n.W) || isPlain(n, "P") && isKind(c, n.P)
	case api.OpNew:
		return isPlain(n, "ANP") && has(c, n.A) && widthOf(c, n.A) > 0 && isWidth(n.P) && n.N == uint64(n.P)
	case api.OpMake:
		return isPlain(n, "NP") && n.N < uint64(len(c.Structs)) && n.P == 65+int(n.N)
	case api.OpLoad:
		return isPlain(n, "ABW") && has(c, n.A, n.B) && widthOf(c, n.B) > 0 && n.W > 0 && n.W == cellOf(c, n.A, n.B)
	case api.OpPut:
		return isPlain(n, "ABC") && has(c, n.A, n.B, n.C) && widthOf(c, n.B) > 0 && widthOf(c, n.C) > 0 && widthOf(c, n.C) == cellOf(c, n.A, n.B)
	case api.OpFree:
		return isPlain(n, "A") && has(c, n.A) && isKind(c, c.Insts[n.A].P)
	case api.OpEmit:
		return isPlain(n, "AN") && has(c, n.A) && widthOf(c, n.A) > 0 && n.N < uint64(len(c.Names))
	}
	return false
}

func rule3(c api.Code) bool {
	for i, b := range c.Blocks {
		for j := b.From; j < b.Until; j++ {
			n := c.Insts[j]
			if n.At < 0 || n.At > 4000 || !instRight(c, n) {
				return false
			}
			if n.Op == api.OpParam && (i == 0 || j > b.From && c.Insts[j-1].Op != api.OpParam) {
				return false
			}
		}
	}
	return true
}

// paramsOf are those of a block.
func paramsOf(c api.Code, i int) []api.Inst {
	var l []api.Inst
	for _, n := range c.Insts[c.Blocks[i].From:c.Blocks[i].Until] {
		if n.Op == api.OpParam {
			l = append(l, n)
		}
	}
	return l
}

// passes says that values are passed on to a block as its parameters.
func passes(c api.Code, to int, args []int) bool {
	if to < 0 || to >= len(c.Blocks) || !has(c, args...) {
		return false
	}
	return slices.EqualFunc(paramsOf(c, to), args, func(n api.Inst, v int) bool {
		return c.Insts[v].W == n.W && c.Insts[v].P == n.P
	})
}

func rule4(c api.Code) bool {
	for _, b := range c.Blocks {
		e, right := b.End, false
		none := len(e.ElseArgs) == 0 && e.Else == 0
		switch e.Kind {
		case api.EndJump:
			right = e.A == 0 && e.N == 0 && none && passes(c, e.To, e.ToArgs)
		case api.EndBranch:
			right = e.N == 0 && has(c, e.A) && widthOf(c, e.A) == 1 && passes(c, e.To, e.ToArgs) && passes(c, e.Else, e.ElseArgs)
		case api.EndAccept:
			right = e.A == 0 && e.N == 0 && none && e.To == 0 && len(e.ToArgs) == 0
		case api.EndReject:
			right = e.A == 0 && e.N >= 0 && e.N <= 255 && none && e.To == 0 && len(e.ToArgs) == 0
		}
		if !right || e.At < 0 || e.At > 4000 {
			return false
		}
	}
	return true
}

func rule5(c api.Code) bool {
	for i := range c.Blocks {
		if slices.Contains(successors(c, i), 0) {
			return false
		}
	}
	return !slices.Contains(reachable(c, -1), false)
}

func rule6(c api.Code) bool {
	doms := dominatorsOf(c)
	for _, p := range usePlaces(&c) {
		home := slices.IndexFunc(c.Blocks, func(b api.Block) bool { return b.From <= *p.value && *p.value < b.Until })
		if !slices.Contains(doms[p.block], home) || home == p.block && *p.value >= p.pos {
			return false
		}
	}
	return true
}

// valid is what the chapter says about code.
func valid(c api.Code) bool {
	return rule1(c) && rule2(c) && rule3(c) && rule4(c) && rule5(c) && rule6(c)
}

// order is the walk, without calls: a list of blocks that were entered and not left, each with how many of its successors were looked at.
func order(c api.Code) []int {
	type visit struct{ block, seen int }
	entered := map[int]bool{0: true}
	var left []int
	for open := []visit{{0, 0}}; len(open) > 0; {
		top := &open[len(open)-1]
		l := successors(c, top.block)
		if top.seen == len(l) {
			left = append([]int{top.block}, left...)
			open = open[:len(open)-1]
			continue
		}
		next := l[top.seen]
		top.seen++
		if !entered[next] {
			entered[next] = true
			open = append(open, visit{next, 0})
		}
	}
	return left
}

// preds are, for each block, the blocks in order whose successor it is.
func preds(c api.Code) [][]int {
	l := make([][]int, len(c.Blocks))
	for to := range c.Blocks {
		for from := range c.Blocks {
			if slices.Contains(successors(c, from), to) {
				l[to] = append(l[to], from)
			}
		}
	}
	return l
}

// uses are how often the values are used.
func uses(c api.Code) []int {
	l := make([]int, len(c.Insts))
	for _, p := range usePlaces(&c) {
		l[*p.value]++
	}
	return l
}
