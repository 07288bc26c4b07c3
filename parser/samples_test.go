package parser_test

import (
	"math/rand"
	"slices"
	"strconv"
	"strings"
	"testing"

	"formfinder/api"
	"formfinder/lexer"
	"formfinder/parser"
)

// signs are those of the grammar, in its order.
var signs = strings.Fields("+ - * / % & | ^ << >> == != < <= > >= slt")

// writer writes the words of trees, as the grammar says. What it writes for a node that is not valid is any text.
type writer struct{ words []string }

func (w *writer) put(words ...string) { w.words = append(w.words, words...) }

func typeOf(width int) string { return "u" + strconv.Itoa(width) }

// kid is a kid of a node, if it has so many.
func kid(n api.Node, i int) api.Node {
	if i < 0 || i >= len(n.Kids) {
		return api.Node{}
	}
	return n.Kids[i]
}

// node writes a node, and returns it with the numbers of words as the offsets.
func (w *writer) node(n api.Node) api.Node {
	n.At = len(w.words)
	var kids []api.Node
	write := func(i int) {
		if i < len(n.Kids) {
			kids = append(kids, w.node(n.Kids[i]))
		}
	}
	switch n.Kind {
	case api.NodeProgram:
		n.At = 0
		for i := range n.Kids {
			if n.Kids[i].Kind == api.NodeBlock {
				w.put("parse")
			}
			write(i)
		}
	case api.NodeStruct:
		w.put("struct", n.Name, "{")
		w.list(len(n.Kids), write)
		w.put("}")
	case api.NodeFunc:
		w.put("func", n.Name, "(")
		w.list(len(n.Kids)-1, write)
		w.put(")", typeOf(n.W))
		write(max(len(n.Kids)-1, 0))
	case api.NodeField, api.NodeParam:
		w.put(n.Name, ":", typeOf(n.W))
	case api.NodeBlock:
		w.put("{")
		for i := range n.Kids {
			write(i)
		}
		w.put("}")
	default:
		if n.Kind < api.NodeNumber {
			w.statement(n, write)
		} else {
			w.expression(n, write)
		}
	}
	n.Kids = kids
	return n
}

// list writes the first kids, with commas between them.
func (w *writer) list(many int, write func(i int)) {
	for i := range max(many, 0) {
		if i > 0 {
			w.put(",")
		}
		write(i)
	}
}

func (w *writer) statement(n api.Node, write func(i int)) {
	last := ";"
	switch n.Kind {
	case api.NodeLet:
		w.put("let", n.Name, "=")
		write(0)
	case api.NodeSet:
		w.put(n.Name, "=")
		write(0)
	case api.NodePut:
		w.put(n.Name, "[")
		write(0)
		w.put("]", "=")
		write(1)
	case api.NodePutPart:
		w.put(n.Name, ".", n.Part, "=")
		write(0)
	case api.NodeNew:
		w.put("new", n.Name, ":", typeOf(n.W), "[")
		write(0)
		w.put("]")
	case api.NodeMake:
		w.put("make", n.Name, ":", n.Part)
	case api.NodeFree:
		w.put("free", n.Name)
	case api.NodeSame:
		w.put("same", n.Name, "=", n.Part)
	case api.NodeIf:
		last = ""
		w.put("if")
		write(0)
		write(1)
		if len(n.Kids) > 2 {
			w.put("else")
			write(2)
		}
	case api.NodeWhile:
		last = ""
		w.put("while")
		write(0)
		write(1)
	case api.NodeEmit:
		w.put("emit", n.Name, "=")
		write(0)
	case api.NodeAccept:
		w.put("accept")
	case api.NodeReject:
		w.put("reject", strconv.FormatUint(n.N, 10))
	case api.NodeReturn:
		w.put("return")
		write(0)
	default:
		w.put("?")
	}
	if last != "" {
		w.put(last)
	}
}

func (w *writer) expression(n api.Node, write func(i int)) {
	switch n.Kind {
	case api.NodeNumber:
		w.put(strconv.FormatUint(n.N, 10), ":", typeOf(n.W))
	case api.NodeVar:
		w.put(n.Name)
	case api.NodeIn:
		w.put("in", "[")
		write(0)
		w.put("]")
	case api.NodeLen:
		w.put("len")
	case api.NodeCell:
		w.put(n.Name, "[")
		write(0)
		w.put("]")
	case api.NodePart:
		w.put(n.Name, ".", n.Part)
	case api.NodeBin:
		sign := "?"
		if 1 <= n.N && n.N <= 17 {
			sign = signs[n.N-1]
		}
		w.put("(")
		write(0)
		w.put(sign)
		write(1)
		w.put(")")
	case api.NodeNot:
		w.put("~")
		write(0)
	case api.NodeCast, api.NodeSext:
		if n.Kind == api.NodeSext {
			w.put("sext")
		}
		w.put(typeOf(n.W), "(")
		write(0)
		w.put(")")
	case api.NodeCall:
		w.put(n.Name, "(")
		w.list(len(n.Kids), write)
		w.put(")")
	default:
		w.put("?")
	}
}

// written are the words of a tree, and the tree with their numbers as the offsets.
func written(n api.Node) ([]string, api.Node) {
	var w writer
	n = w.node(n)
	return w.words, n
}

// textOfTree is the text of a tree, with a blank behind each token.
func textOfTree(n api.Node) string {
	words, _ := written(n)
	return strings.Join(words, " ") + " "
}

// placed is a source of words, and the offsets of the words: gap is what stands before a word, and behind the last one.
func placed(words []string, gap func(i int) string) (string, []int) {
	var b strings.Builder
	var offsets []int
	for i, word := range words {
		b.WriteString(gap(i))
		offsets = append(offsets, b.Len())
		b.WriteString(word)
	}
	b.WriteString(gap(len(words)))
	return b.String(), offsets
}

// moved is a tree with offsets in place of numbers of words.
func moved(n api.Node, offsets []int) api.Node {
	if n.Kind != api.NodeProgram {
		n.At = offsets[n.At]
	}
	n.Kids = slices.Clone(n.Kids)
	for i, k := range n.Kids {
		n.Kids[i] = moved(k, offsets)
	}
	return n
}

// without are the words without gaps, but where two of them would become others.
func without(words []string) func(i int) string {
	return func(i int) string {
		if i == 0 || i == len(words) {
			return ""
		}
		l, e, _ := lexer.Lex(words[i-1] + words[i])
		if e == api.OK && len(l) == 2 && textOf(l[0]) == words[i-1] && textOf(l[1]) == words[i] {
			return ""
		}
		return " "
	}
}

// maker makes random trees that are valid.
type maker struct {
	r    *rand.Rand
	left int // how many nodes there may be, about
}

func (m *maker) name() string {
	names := []string{"a", "b", "x1", "u65", "u0", "u08", "ab", "abcdefghijkl", "u", "lets", "inn", "name", "number", "type", "end", "s"}
	return names[m.r.Intn(len(names))]
}

func (m *maker) width() int { return 1 + m.r.Intn(64) }

func (m *maker) number() uint64 {
	return []uint64{0, 1, 7, 255, 256, 1 << 40, 1<<64 - 1}[m.r.Intn(7)]
}

// expression makes an expression of a depth.
func (m *maker) expression(depth int) api.Node {
	m.left--
	kinds := []int{api.NodeNumber, api.NodeVar, api.NodeLen, api.NodePart, api.NodeCall}
	if depth < 10 && m.left > 0 {
		kinds = []int{api.NodeIn, api.NodeCell, api.NodeBin, api.NodeNot, api.NodeCast, api.NodeSext, api.NodeCall, api.NodeBin, api.NodeVar, api.NodeNumber, api.NodeLen, api.NodePart}
	}
	n := api.Node{Kind: kinds[m.r.Intn(len(kinds))]}
	many := 0
	switch n.Kind {
	case api.NodeNumber:
		n.N, n.W = m.number(), m.width()
	case api.NodeVar:
		n.Name = m.name()
	case api.NodePart:
		n.Name, n.Part = m.name(), m.name()
	case api.NodeCell:
		n.Name, many = m.name(), 1
	case api.NodeBin:
		n.N, many = uint64(1+m.r.Intn(17)), 2
	case api.NodeIn, api.NodeNot:
		many = 1
	case api.NodeCast, api.NodeSext:
		n.W, many = m.width(), 1
	case api.NodeCall:
		n.Name = m.name()
		if depth < 10 && m.left > 0 {
			many = m.r.Intn(4)
		}
	}
	for range many {
		n.Kids = append(n.Kids, m.expression(depth+1))
	}
	return n
}

// statement makes a statement of a block of a depth.
func (m *maker) statement(depth int) api.Node {
	m.left--
	flat := []int{api.NodeMake, api.NodeFree, api.NodeSame, api.NodeAccept, api.NodeReject}
	deep := []int{api.NodeLet, api.NodeSet, api.NodePut, api.NodePutPart, api.NodeNew, api.NodeIf, api.NodeIf, api.NodeWhile, api.NodeEmit, api.NodeReturn}
	kinds := flat
	if depth < 10 && m.left > 0 {
		kinds = append(deep, flat...)
	}
	n := api.Node{Kind: kinds[m.r.Intn(len(kinds))]}
	many := 1
	switch n.Kind {
	case api.NodeMake, api.NodeSame:
		n.Name, n.Part, many = m.name(), m.name(), 0
	case api.NodeFree:
		n.Name, many = m.name(), 0
	case api.NodeAccept:
		many = 0
	case api.NodeReject:
		n.N, many = m.number(), 0
	case api.NodeLet, api.NodeSet, api.NodeEmit:
		n.Name = m.name()
	case api.NodePut:
		n.Name, many = m.name(), 2
	case api.NodePutPart:
		n.Name, n.Part = m.name(), m.name()
	case api.NodeNew:
		n.Name, n.W = m.name(), m.width()
	}
	for range many {
		n.Kids = append(n.Kids, m.expression(depth+1))
	}
	if n.Kind == api.NodeIf || n.Kind == api.NodeWhile {
		n.Kids = append(n.Kids, m.block(depth+1))
	}
	if n.Kind == api.NodeIf && m.r.Intn(2) == 0 {
		n.Kids = append(n.Kids, m.block(depth+1))
	}
	return n
}

// block makes a block of a depth.
func (m *maker) block(depth int) api.Node {
	m.left--
	n := api.Node{Kind: api.NodeBlock}
	for range m.r.Intn(4) {
		n.Kids = append(n.Kids, m.statement(depth))
	}
	return n
}

func (m *maker) program() api.Node {
	n := api.Node{Kind: api.NodeProgram}
	for range m.r.Intn(4) {
		item := api.Node{Kind: api.NodeStruct, Name: m.name()}
		for range 1 + m.r.Intn(3) {
			item.Kids = append(item.Kids, api.Node{Kind: api.NodeField, Name: m.name(), W: m.width()})
		}
		if m.r.Intn(2) == 0 {
			item = api.Node{Kind: api.NodeFunc, Name: m.name(), W: m.width()}
			for range m.r.Intn(3) {
				item.Kids = append(item.Kids, api.Node{Kind: api.NodeParam, Name: m.name(), W: m.width()})
			}
			item.Kids = append(item.Kids, m.block(1))
		}
		n.Kids = append(n.Kids, item)
	}
	n.Kids = append(n.Kids, m.block(1))
	return n
}

// full is a tree with a node of each kind, and with both forms of those that have two.
func full(t *testing.T) api.Node {
	n, diags := parser.Parse(fullSource)
	if len(diags) > 0 {
		t.Fatal(diags)
	}
	return n
}

const fullSource = `# a program with all parts
struct s { a: u8, b: u16 } struct one{z:u64}
func f(a: u8, b: u16) u8 { return (a + 1:u8); }
func g() u1 { if (len == 2:u8) { } else { x = ~0:u1; } return sext u32(v); }
parse {
  let x = in[0:u8]; x = f(x, 2:u16); new p: u8[4:u8]; p[0:u8] = x; make q: s; q.a = p[x]; same p = r;
  while (x slt g()) { x = u8(q.b); free p; }
  if ~(x >= y) { emit v = x; accept; } else { reject 7; }
}`

// samples are random trees that are valid, whose texts are not too long, in an order that is always the same.
func samples(seed int64, many int) []api.Node {
	r := rand.New(rand.NewSource(seed))
	var l []api.Node
	for len(l) < many {
		m := &maker{r: r, left: 1 + r.Intn(120)}
		n := m.program()
		if words, _ := written(n); len(words) <= 1400 && len(textOfTree(n)) <= 3800 {
			l = append(l, n)
		}
	}
	return l
}

// vocabulary are words of all sorts.
var vocabulary = append(append([]string{"a", "b1", "7", "u8", "u65", "{", "}", "(", ")", "[", "]", ",", ";", ":", ".", "=", "~"}, keyWords...), signs[:16]...)

// randomGap is a gap that may stand between any tokens.
func randomGap(r *rand.Rand) string {
	return []string{" ", "\n", "\t", "  ", "# let } ;\n", " #\n#\xff\n", "\n\n "}[r.Intn(7)]
}

// damaged are the words of a tree with a few random changes.
func damaged(r *rand.Rand, words []string) []string {
	words = slices.Clone(words)
	for range 1 + r.Intn(5) {
		i, j := r.Intn(len(words)+1), r.Intn(len(words)+1)
		switch r.Intn(5) {
		case 0:
			words = slices.Insert(words, i, vocabulary[r.Intn(len(vocabulary))])
		case 1:
			words = slices.Delete(words, i, min(i+1+r.Intn(3), len(words)))
		case 2:
			if i < len(words) {
				words[i] = vocabulary[r.Intn(len(vocabulary))]
			}
		case 3:
			if i < len(words) && j < len(words) {
				words[i], words[j] = words[j], words[i]
			}
		case 4:
			words = slices.Insert(words, i, []string{"{", "}", ";", "else", "func", "parse", "struct"}[r.Intn(7)])
		}
		if len(words) == 0 {
			words = []string{"a"}
		}
	}
	return words
}

// equal reports whether two nodes are equal: empty lists are like nil.
func equal(a, b api.Node) bool {
	return a.Kind == b.Kind && a.Name == b.Name && a.Part == b.Part && a.N == b.N && a.W == b.W && a.At == b.At &&
		slices.EqualFunc(a.Kids, b.Kids, equal)
}

// expectDiags fails the test unless a source has these diagnostics, and the zero node.
func expectDiags(t *testing.T, source string, want []api.Diag) {
	t.Helper()
	n, diags := parser.Parse(source)
	if !slices.Equal(diags, want) {
		t.Fatalf("%q: diagnostics %v; want %v", source, diags, want)
	}
	if len(want) > 0 && !equal(n, api.Node{}) {
		t.Fatalf("%q: a tree with diagnostics: %v", source, n)
	}
}

// expectTree fails the test unless a source has this tree.
func expectTree(t *testing.T, source string, want api.Node) {
	t.Helper()
	n, diags := parser.Parse(source)
	if len(diags) > 0 {
		t.Fatalf("%q: diagnostics %v", source, diags)
	}
	if !equal(n, want) {
		t.Fatalf("%q:\n%v; want\n%v", source, n, want)
	}
}

// treeOf is the tree of a source that has no diagnostics.
func treeOf(t *testing.T, source string) api.Node {
	t.Helper()
	n, diags := parser.Parse(source)
	if len(diags) > 0 {
		t.Fatalf("%q: diagnostics %v", source, diags)
	}
	return n
}
