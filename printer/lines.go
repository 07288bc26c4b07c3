package printer

import (
	"strings"

	"formfinder/api"
)

// lines collects the lines of a text. The nodes whose lines it collects are
// valid.
type lines struct {
	text  strings.Builder
	depth int // how many blocks are around the next line

	words map[int]string // by kinds
	signs signTexts
}

// add collects a line.
func (l *lines) add(parts ...string) {
	l.text.WriteString(strings.Repeat("  ", l.depth))
	l.text.WriteString(join(parts...))
	l.text.WriteByte('\n')
}

func (l *lines) tooLong() bool {
	return l.text.Len() > api.MaxSource
}

func (l *lines) program(n api.Node) {
	for _, kid := range n.Kids {
		if l.tooLong() {
			// What follows cannot make it shorter.
			return
		}
		l.item(kid)
	}
}

// item collects the lines of an item, or of parse.
func (l *lines) item(n api.Node) {
	switch n.Kind {
	case api.NodeStruct:
		l.add("struct ", n.Name, " { ", list(n.Kids, typedName), " }")
	case api.NodeFunc:
		last := len(n.Kids) - 1
		params := list(n.Kids[:last], typedName)
		l.blocks(join("func ", n.Name, "(", params, ") ", typeOf(n.W)), n.Kids[last:])
	case api.NodeBlock:
		l.blocks("parse", []api.Node{n})
	}
}

// blocks collects the lines of a block, and of that behind else, if there is
// one: head is what stands before them.
func (l *lines) blocks(head string, blocks []api.Node) {
	l.add(head, " {")
	for i, block := range blocks {
		if i > 0 {
			l.add("} else {")
		}
		l.depth++
		l.statements(block.Kids)
		l.depth--
	}
	l.add("}")
}

func (l *lines) statements(kids []api.Node) {
	for _, kid := range kids {
		if l.tooLong() {
			return
		}
		switch kid.Kind {
		case api.NodeIf, api.NodeWhile:
			l.blocks(join(l.words[kid.Kind], l.expression(kid.Kids[0])), kid.Kids[1:])
		default:
			l.add(l.simple(kid), ";")
		}
	}
}

// simple returns the text of a statement without blocks, up to its end.
func (l *lines) simple(n api.Node) string {
	word := l.words[n.Kind]
	kid := func(i int) string { return l.expression(n.Kids[i]) }
	switch n.Kind {
	case api.NodeLet, api.NodeSet, api.NodeEmit:
		return join(word, n.Name, " = ", kid(0))
	case api.NodePut:
		return join(n.Name, "[", kid(0), "] = ", kid(1))
	case api.NodePutPart:
		return join(n.Name, ".", n.Part, " = ", kid(0))
	case api.NodeNew:
		return join(word, n.Name, ": ", typeOf(n.W), "[", kid(0), "]")
	case api.NodeMake:
		return join(word, n.Name, ": ", n.Part)
	case api.NodeSame:
		return join(word, n.Name, " = ", n.Part)
	case api.NodeFree:
		return join(word, n.Name)
	case api.NodeReject:
		return join(word, decimal(n.N))
	case api.NodeReturn:
		return join(word, kid(0))
	}
	return word
}

// expression returns the text of an expression.
func (l *lines) expression(n api.Node) string {
	word := l.words[n.Kind]
	kid := func(i int) string { return l.expression(n.Kids[i]) }
	switch n.Kind {
	case api.NodeNumber:
		return join(decimal(n.N), ":", typeOf(n.W))
	case api.NodeVar:
		return n.Name
	case api.NodeIn, api.NodeCell:
		return join(word, n.Name, "[", kid(0), "]")
	case api.NodePart:
		return join(n.Name, ".", n.Part)
	case api.NodeCall:
		return join(n.Name, "(", list(n.Kids, l.expression), ")")
	case api.NodeBin:
		return join("(", kid(0), " ", l.signs[n.N], " ", kid(1), ")")
	case api.NodeNot:
		return join(word, kid(0))
	case api.NodeCast, api.NodeSext:
		return join(word, typeOf(n.W), "(", kid(0), ")")
	}
	return word
}
