package printer_test

import (
	"math/rand"
	"reflect"
	"strconv"
	"strings"
	"testing"

	"formfinder/api"
	"formfinder/lexer"
	"formfinder/parser"
	"formfinder/printer"
)

// What texts consist of, as the chapter says. An upper-case letter stands for a part: E is an expression, S a sign, V a name, T a type, N a number, and B the lines of a block.
var (
	flatExpressions = []string{"N:T", "len", "V", "V.V", "V()"}
	deepExpressions = []string{"in[E]", "V[E]", "V(E)", "V(E, E)", "V(E, E, E)", "(E S E)", "(E S E)", "~E", "T(E)", "sext T(E)"}
	flatStatements  = []string{"make V: V;", "free V;", "same V = V;", "accept;", "reject N;"}
	deepStatements  = []string{"let V = E;", "V = E;", "V[E] = E;", "V.V = E;", "new V: T[E];", "emit V = E;", "return E;", "if E {B}", "if E {B} else {B}", "while E {B}"}
	items           = []string{"struct V { V: T }", "struct V { V: T, V: T }", "struct V { V: T, V: T, V: T }", "func V() T {B}", "func V(V: T) T {B}", "func V(V: T, V: T, V: T) T {B}"}
)

var (
	signs   = strings.Fields("+ - * / % & | ^ << >> == != < <= > >= slt")
	names   = []string{"a", "b", "x1", "u65", "u0", "u08", "abcdefghijkl", "u", "inn", "lets", "name", "type"}
	numbers = []string{"0", "1", "7", "255", "256", "1099511627776", "18446744073709551615"}
)

// author writes random texts.
type author struct {
	r    *rand.Rand
	left int // how many expressions, statements and blocks there may be, about
}

func (a *author) pick(lists ...[]string) string {
	l := lists[a.r.Intn(len(lists))]
	return l[a.r.Intn(len(l))]
}

// expand writes a text: depth is that of its expressions and its blocks.
func (a *author) expand(text string, depth int) string {
	var b strings.Builder
	for _, c := range text {
		switch c {
		case 'E':
			b.WriteString(a.expression(depth))
		case 'S':
			b.WriteString(a.pick(signs))
		case 'V':
			b.WriteString(a.pick(names))
		case 'T':
			b.WriteString("u" + strconv.Itoa(1+a.r.Intn(64)))
		case 'N':
			b.WriteString(a.pick(numbers))
		case 'B':
			b.WriteString(a.block(depth))
		default:
			b.WriteRune(c)
		}
	}
	return b.String()
}

func (a *author) expression(depth int) string {
	a.left--
	if depth == 10 || a.left <= 0 {
		return a.expand(a.pick(flatExpressions), depth+1)
	}
	return a.expand(a.pick(flatExpressions, deepExpressions), depth+1)
}

// block writes what stands between the braces of a block.
func (a *author) block(depth int) string {
	a.left--
	lines := "\n"
	for range a.r.Intn(4) {
		statement := a.pick(flatStatements)
		if depth < 10 && a.left > 0 {
			statement = a.pick(flatStatements, deepStatements, deepStatements)
		}
		a.left--
		lines += strings.Repeat("  ", depth) + a.expand(statement, depth+1) + "\n"
	}
	return lines + strings.Repeat("  ", depth-1)
}

func (a *author) program() string {
	text := ""
	for range a.r.Intn(4) {
		text += a.expand(a.pick(items), 1) + "\n"
	}
	return text + a.expand("parse {B}\n", 1)
}

const full = `struct s { a: u8, b: u16 }
struct t { z: u64 }
func f(a: u8, b: u16) u8 {
  return (a + 1:u8);
}
func g() u1 {
}
parse {
  let x = in[0:u8];
  x = f(x, g());
  new p: u8[4:u8];
  p[0:u8] = x;
  make q: s;
  q.a = p[x];
  same p = r;
  while (x slt q.b) {
    x = u8(~len);
    free p;
  }
  if x {
    emit v = sext u9(x);
    accept;
  } else {
    reject 7;
  }
}
`

// samples are random texts that can be split into tokens, in an order that is always the same.
func samples(seed int64, many int) []string {
	r := rand.New(rand.NewSource(seed))
	l := []string{full}
	for len(l) < many {
		a := &author{r: r, left: 1 + r.Intn(120)}
		text := a.program()
		if _, e, _ := lexer.Lex(text); e == api.OK {
			l = append(l, text)
		}
	}
	return l
}

// treeOf is the tree of a source that has no diagnostics.
func treeOf(t *testing.T, source string) api.Node {
	t.Helper()
	n, diags := parser.Parse(source)
	if len(diags) > 0 {
		t.Fatalf("%q: diagnostics %v", source, diags)
	}
	return n
}

// textOf is the text of a tree that has one.
func textOf(t *testing.T, n api.Node) string {
	t.Helper()
	text, e := printer.Source(n)
	if e != api.OK {
		t.Fatalf("%v: error %d", n, e)
	}
	return text
}

// expectError fails the test unless a node has this error.
func expectError(t *testing.T, n api.Node, want api.Errno) {
	t.Helper()
	if text, e := printer.Source(n); e != want || text != "" {
		t.Fatalf("%.300v: %q, error %d; want %d", n, text, e, want)
	}
}

// same reports whether two trees are the same, apart from offsets.
func same(a, b api.Node) bool {
	return reflect.DeepEqual(parser.Strip(a), parser.Strip(b))
}

// altered are the trees in which one node, of all, is another one.
func altered(n api.Node, others func(n api.Node) []api.Node) []api.Node {
	l := others(n)
	for i, kid := range n.Kids {
		for _, k := range altered(kid, others) {
			m := n
			m.Kids = append([]api.Node{}, n.Kids...)
			m.Kids[i] = k
			l = append(l, m)
		}
	}
	return l
}

// inParse is the program with these statements.
func inParse(statements ...api.Node) api.Node {
	return api.Node{Kind: api.NodeProgram, Kids: []api.Node{{Kind: api.NodeBlock, Kids: statements}}}
}
