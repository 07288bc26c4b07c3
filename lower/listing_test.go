package lower_test

import (
	"fmt"
	"slices"
	"strings"
	"testing"

	"formfinder/api"
	"formfinder/lower"
	"formfinder/parser"
	"formfinder/ssa"
)

// operators are the names of those that instructions have.
var operators = map[int]string{
	api.OpConst: "const", api.OpAdd: "add", api.OpSub: "sub", api.OpMul: "mul", api.OpDiv: "div", api.OpRem: "rem", api.OpAnd: "and", api.OpOr: "or", api.OpXor: "xor",
	api.OpShl: "shl", api.OpShr: "shr", api.OpEq: "eq", api.OpLt: "lt", api.OpSlt: "slt", api.OpNot: "not", api.OpZext: "zext", api.OpSext: "sext", api.OpPart: "part",
	api.OpByte: "byte", api.OpLen: "len", api.OpParam: "param", api.OpNew: "new", api.OpMake: "make", api.OpLoad: "load", api.OpPut: "put", api.OpFree: "free", api.OpEmit: "emit",
}

// takes is how many of A, B and C are values.
func takes(op int) int {
	switch op {
	case api.OpConst, api.OpLen, api.OpParam, api.OpMake:
		return 0
	case api.OpNot, api.OpZext, api.OpSext, api.OpPart, api.OpByte, api.OpNew, api.OpFree, api.OpEmit:
		return 1
	case api.OpPut:
		return 3
	}
	return 2
}

// instText is an instruction: its number, its operator with the width (.8) or the kind (*8) of its value, its values, and its number N, or its name.
func instText(c api.Code, i int) string {
	n := c.Insts[i]
	text := fmt.Sprint(i, " ", operators[n.Op])
	if n.W != 0 {
		text += fmt.Sprint(".", n.W)
	}
	if n.P != 0 {
		text += fmt.Sprint("*", n.P)
	}
	for _, v := range []int{n.A, n.B, n.C}[:takes(n.Op)] {
		text += fmt.Sprint(" ", v)
	}
	switch n.Op {
	case api.OpConst, api.OpPart:
		text += fmt.Sprint(" ", n.N)
	case api.OpEmit:
		text += " " + c.Names[n.N]
	}
	return text
}

// targetText is a block with the values that are passed on to it.
func targetText(block int, args []int) string {
	text := fmt.Sprint(block)
	if len(args) > 0 {
		text += strings.Replace(fmt.Sprint(args), "[", "(", 1)
		text = text[:len(text)-1] + ")"
	}
	return text
}

func endText(e api.End) string {
	switch e.Kind {
	case api.EndJump:
		return "jump " + targetText(e.To, e.ToArgs)
	case api.EndBranch:
		return fmt.Sprint("branch ", e.A, " to ", targetText(e.To, e.ToArgs), " else ", targetText(e.Else, e.ElseArgs))
	case api.EndAccept:
		return "accept"
	}
	return fmt.Sprint("reject ", e.N)
}

// listing is code as a text, a line for each block. Behind each instruction and each end stands what a function says of its At.
func listing(c api.Code, place func(at int) string) string {
	var b strings.Builder
	for i, block := range c.Blocks {
		fmt.Fprint(&b, i, ": ")
		for j := block.From; j < block.Until; j++ {
			b.WriteString(instText(c, j) + place(c.Insts[j].At) + "; ")
		}
		b.WriteString(endText(block.End) + place(block.End.At) + "\n")
	}
	return b.String()
}

func noPlace(int) string { return "" }

// lines is a text without the blanks at the beginnings of its lines, and without lines that are empty.
func lines(text string) string {
	var b strings.Builder
	for line := range strings.Lines(text) {
		if line = strings.TrimSpace(line); line != "" {
			b.WriteString(line + "\n")
		}
	}
	return b.String()
}

// treeOf is the tree of a source that can be parsed.
func treeOf(t *testing.T, source string) api.Node {
	t.Helper()
	n, diags := parser.Parse(source)
	if len(diags) > 0 {
		t.Fatalf("%q: %v", source, diags)
	}
	return n
}

// codeOf is the code of a program.
func codeOf(t *testing.T, n api.Node) api.Code {
	t.Helper()
	c, e := lower.Lower(n)
	if e != api.OK {
		t.Fatalf("%v: error %d", n, e)
	}
	return c
}

// codeOfSource is the code of the program of a source, which must be valid.
func codeOfSource(t *testing.T, source string) api.Code {
	t.Helper()
	c := codeOf(t, treeOf(t, source))
	if !ssa.Valid(c) {
		t.Fatalf("%s\n%s\nis not valid", source, listing(c, noPlace))
	}
	return c
}

// expectCode fails the test unless a source has this code, by the model, too.
func expectCode(t *testing.T, source, want string) {
	t.Helper()
	if got := listing(codeOfSource(t, source), noPlace); got != lines(want) {
		t.Errorf("%s\n%s; want\n%s", source, got, lines(want))
	}
	expectModel(t, treeOf(t, source))
}

// expectStatements fails the test unless statements have this code in parse, which has only one block.
func expectStatements(t *testing.T, statements, want string) {
	t.Helper()
	expectCode(t, "struct t { a: u1 } struct s { a: u8, b: u16, c: u8 } struct w { x: u64 } parse { "+statements+" accept; }", "0: "+want+"accept")
}

// expectPlaces fails the test unless a source has this code, in which a mark (an upper-case letter, which is no part of the source) stands for the place where it is in the source.
func expectPlaces(t *testing.T, marked, want string) {
	t.Helper()
	var source strings.Builder
	marks := map[int]string{}
	for _, c := range []byte(marked) {
		if 'A' <= c && c <= 'Z' {
			marks[source.Len()] += string(c)
			continue
		}
		source.WriteByte(c)
	}
	place := func(at int) string { return " " + marks[at] }
	if got := listing(codeOfSource(t, source.String()), place); got != lines(want) {
		t.Errorf("%s\n%s; want\n%s", marked, got, lines(want))
	}
	expectModel(t, treeOf(t, source.String()))
}

// equalCode reports whether two codes are the same.
func equalCode(a, b api.Code) bool {
	return slices.EqualFunc(a.Structs, b.Structs, slices.Equal[[]int]) && slices.Equal(a.Names, b.Names) &&
		slices.Equal(a.Insts, b.Insts) && slices.EqualFunc(a.Blocks, b.Blocks, equalBlock)
}

func equalBlock(a, b api.Block) bool {
	e, f := a.End, b.End
	return a.From == b.From && a.Until == b.Until &&
		e.Kind == f.Kind && e.A == f.A && e.To == f.To && e.Else == f.Else && e.N == f.N && e.At == f.At &&
		slices.Equal(e.ToArgs, f.ToArgs) && slices.Equal(e.ElseArgs, f.ElseArgs)
}

// moved is code whose places are what a function says of them.
func moved(c api.Code, at func(at int) int) api.Code {
	c.Insts, c.Blocks = slices.Clone(c.Insts), slices.Clone(c.Blocks)
	for i := range c.Insts {
		c.Insts[i].At = at(c.Insts[i].At)
	}
	for i := range c.Blocks {
		c.Blocks[i].End.At = at(c.Blocks[i].End.At)
	}
	return c
}

// withoutPlaces is code whose places are 0.
func withoutPlaces(c api.Code) api.Code { return moved(c, func(int) int { return 0 }) }

// clone is a copy of a node that shares no memory with it.
func clone(n api.Node) api.Node {
	kids := n.Kids
	n.Kids = nil
	for _, k := range kids {
		n.Kids = append(n.Kids, clone(k))
	}
	return n
}

// nodesOf are pointers to a node and to all below it, in the order of the source.
func nodesOf(n *api.Node) []*api.Node {
	l := []*api.Node{n}
	for i := range n.Kids {
		l = append(l, nodesOf(&n.Kids[i])...)
	}
	return l
}
