package check_test

import (
	"fmt"
	"math/rand"
	"slices"
	"strings"
	"testing"

	"formfinder/api"
	"formfinder/check"
	"formfinder/parser"
)

// The kinds of what an author declares.
const (
	anInteger = iota
	anArray
	aStruct
)

// thing is a variable, a field, or a function, that an author has declared.
type thing struct {
	name   string
	kind   int
	width  int
	of     string // the struct of a pointer
	params []int
}

// author writes random programs with which nothing is wrong, but for what it gets wrong now and then.
type author struct {
	r       *rand.Rand
	wrong   float64 // how often something else is written than what would be right
	left    int     // how many expressions and statements there may be, about
	crowded bool    // whether there may be more items, fields, parameters and variables than the limits allow

	structs map[string][]thing
	funcs   []thing
	items   []string
	names   []string // of the variables of the function
	visible []thing
}

func (a *author) errs() bool { return a.r.Float64() < a.wrong }

func pick[T any](r *rand.Rand, l []T) T { return l[r.Intn(len(l))] }

// Names are few, so that the same ones are used for all sorts of things.
var someNames = []string{"a", "b", "c", "d", "p", "q", "s", "f"}

// fresh is a name that is not among these, or, now and then, any name.
func (a *author) fresh(used []string) string {
	name := pick(a.r, someNames)
	if a.errs() {
		return name
	}
	for i := 0; slices.Contains(used, name); i++ {
		name = pick(a.r, someNames) + fmt.Sprint(a.r.Intn(i+1))
	}
	return name
}

func (a *author) width() int { return pick(a.r, []int{1, 8, 8, 8, 16, 64, 1 + a.r.Intn(64)}) }

func typeOf(width int) string { return fmt.Sprint("u", width) }

// find is a random one of the visible variables that are as a function says, or, now and then, any one.
func (a *author) find(fits func(v thing) bool) (thing, bool) {
	var l []thing
	for _, v := range a.visible {
		if fits(v) {
			l = append(l, v)
		}
	}
	if a.errs() {
		l = a.visible
	}
	if a.errs() {
		return thing{name: pick(a.r, someNames), width: 8, of: "s"}, true
	}
	if len(l) == 0 {
		return thing{}, false
	}
	return pick(a.r, l), true
}

func (a *author) number(width int) string {
	n := a.r.Uint64()
	if !a.errs() {
		n &= 1<<width - 1
	}
	return fmt.Sprint(pick(a.r, []uint64{n, n >> 40, n & 7 % 2, n & (n >> 1)}), ":", typeOf(width))
}

// expression writes an expression of a width.
func (a *author) expression(width, depth int) string {
	a.left--
	if a.errs() {
		width = a.width()
	}
	x := func(width int) string { return a.expression(width, depth+1) }
	flat := depth >= 10 || a.left <= 0
	kind := a.r.Intn(14)
	if flat {
		kind = a.r.Intn(3)
	}
	switch kind {
	case 0:
		if v, ok := a.find(func(v thing) bool { return v.kind == anInteger && v.width == width }); ok {
			return v.name
		}
	case 1:
		if p, f := a.part(width); p != "" {
			return p + "." + f.name
		}
	case 2:
		if width == 8 {
			return "len"
		}
	case 3:
		if width == 8 {
			return "in[" + x(a.width()) + "]"
		}
	case 4:
		if v, ok := a.find(func(v thing) bool { return v.kind == anArray && v.width == width }); ok {
			return v.name + "[" + x(a.width()) + "]"
		}
	case 5, 6:
		return "(" + x(width) + " " + pick(a.r, signs[:10]) + " " + x(width) + ")"
	case 7, 8:
		if width == 1 {
			w := a.width()
			return "(" + x(w) + " " + pick(a.r, signs[10:]) + " " + x(w) + ")"
		}
	case 9:
		return "~" + x(width)
	case 10:
		return typeOf(width) + "(" + x(a.width()) + ")"
	case 11:
		return "sext " + typeOf(width) + "(" + x(1+a.r.Intn(width)) + ")"
	case 12, 13:
		if text := a.call(width, x); text != "" {
			return text
		}
	}
	return a.number(width)
}

var signs = strings.Fields("+ - * / % & | ^ << >> == != < <= > >= slt")

// part is a pointer to a struct with a field of it, if there are such: one of a width, or any one if this is 0.
func (a *author) part(width int) (string, thing) {
	fits := func(f thing) bool { return width == 0 || f.width == width }
	v, ok := a.find(func(v thing) bool { return v.kind == aStruct && slices.ContainsFunc(a.structs[v.of], fits) })
	if !ok {
		return "", thing{}
	}
	l := slices.DeleteFunc(slices.Clone(a.structs[v.of]), func(f thing) bool { return !fits(f) })
	if len(l) == 0 || a.errs() {
		return v.name, thing{name: pick(a.r, someNames), width: 8}
	}
	return v.name, pick(a.r, l)
}

func (a *author) call(width int, x func(width int) string) string {
	var l []thing
	for _, f := range a.funcs {
		if f.width == width || a.errs() {
			l = append(l, f)
		}
	}
	if len(l) == 0 {
		return ""
	}
	f := pick(a.r, l)
	if a.errs() {
		f.name = pick(a.r, someNames)
	}
	var args []string
	for _, w := range f.params {
		args = append(args, x(w))
	}
	if a.errs() {
		args = append(args, x(a.width()))
	}
	if len(args) > 0 && a.errs() {
		args = args[1:]
	}
	return f.name + "(" + strings.Join(args, ", ") + ")"
}

// declare adds a variable, and returns its name.
func (a *author) declare(v thing) string {
	v.name = a.fresh(a.names)
	a.names = append(a.names, v.name)
	a.visible = append(a.visible, v)
	return v.name
}

// first writes so many declarations, now and then, that there are about as many variables as there may be.
func (a *author) first() string {
	text := ""
	if a.crowded && a.r.Intn(3) == 0 {
		for range 36 + a.r.Intn(5) {
			text += "let " + a.declare(thing{width: 8}) + " = len; "
		}
	}
	return text
}

// statements writes the statements of a block of a depth.
func (a *author) statements(depth, many int) string {
	text := ""
	for range many {
		text += a.statement(depth) + " "
	}
	return text
}

// block writes the statements of a block within another one.
func (a *author) block(depth int) string {
	visible := slices.Clone(a.visible)
	text := a.statements(depth, a.r.Intn(4))
	a.visible = visible
	return text
}

func (a *author) statement(depth int) string {
	a.left--
	deep := depth < 10 && a.left > 0
	x := func(width int) string { return a.expression(width, depth+1) }
	room := len(a.names) < 40 || a.crowded
	w := a.width()
	if !deep {
		return pick(a.r, []string{"accept;", fmt.Sprint("reject ", a.r.Intn(256), ";")})
	}
	switch kind := a.r.Intn(22); {
	case kind < 3 && room:
		e := x(w)
		return "let " + a.declare(thing{width: w}) + " = " + e + ";"
	case kind < 5 && room:
		e := x(a.width())
		return "new " + a.declare(thing{kind: anArray, width: w}) + ": " + typeOf(w) + "[" + e + "];"
	case kind < 7 && room && len(a.structs) > 0:
		s := pick(a.r, a.structNames())
		if a.errs() {
			s = pick(a.r, someNames)
		}
		return "make " + a.declare(thing{kind: aStruct, of: s}) + ": " + s + ";"
	case kind < 9:
		if v, ok := a.find(func(v thing) bool { return v.kind == anInteger }); ok {
			return v.name + " = " + x(max(v.width, 1)) + ";"
		}
	case kind < 11:
		if v, ok := a.find(func(v thing) bool { return v.kind == anArray }); ok {
			return v.name + "[" + x(a.width()) + "] = " + x(max(v.width, 1)) + ";"
		}
	case kind < 13:
		if p, f := a.part(0); p != "" {
			return p + "." + f.name + " = " + x(f.width) + ";"
		}
	case kind < 15:
		return a.pointers()
	case kind < 18:
		text := "if " + x(1) + " { " + a.block(depth+1) + "}"
		if a.r.Intn(2) == 0 {
			text += " else { " + a.block(depth+1) + "}"
		}
		return text
	case kind == 18:
		return "while " + x(1) + " { " + a.block(depth+1) + "}"
	case kind == 19 && a.errs():
		return pick(a.r, []string{"return " + x(w) + ";", "reject 256;", "reject 18446744073709551615;"})
	}
	return "emit " + pick(a.r, someNames) + " = " + x(w) + ";"
}

// pointers writes a statement that is about pointers alone.
func (a *author) pointers() string {
	v, ok := a.find(func(v thing) bool { return v.kind != anInteger })
	w, _ := a.find(func(w thing) bool { return w.kind == v.kind && w.width == v.width && w.of == v.of })
	switch {
	case !ok:
		return "accept;"
	case w.name == "" || a.r.Intn(2) == 0:
		return "free " + v.name + ";"
	}
	return "same " + v.name + " = " + w.name + ";"
}

// structNames are those of the structs, in an order that is always the same.
func (a *author) structNames() []string {
	var l []string
	for name := range a.structs {
		l = append(l, name)
	}
	slices.Sort(l)
	return l
}

// typedNames writes fields or parameters.
func (a *author) typedNames(many int) (string, []thing) {
	var texts, names []string
	var l []thing
	for range many {
		v := thing{name: a.fresh(names), width: a.width()}
		names = append(names, v.name)
		texts = append(texts, v.name+": "+typeOf(v.width))
		l = append(l, v)
	}
	return strings.Join(texts, ", "), l
}

// many is a number up to a limit, or up to more if it is crowded.
func (a *author) many(least, most, limit int) int {
	if a.crowded && a.r.Intn(3) == 0 {
		return limit - 1 + a.r.Intn(4)
	}
	return least + a.r.Intn(most-least+1)
}

func (a *author) structure() string {
	name := a.fresh(a.items)
	a.items = append(a.items, name)
	text, fields := a.typedNames(a.many(1, 3, 8))
	if a.structs[name] == nil {
		a.structs[name] = fields
	}
	return "struct " + name + " { " + text + " }\n"
}

func (a *author) function(many int) string {
	f := thing{name: a.fresh(a.items), width: a.width()}
	a.items = append(a.items, f.name)
	text, params := a.typedNames(a.many(0, 3, 4))
	a.names, a.visible = nil, nil
	for _, p := range params {
		a.names = append(a.names, p.name)
		a.visible = append(a.visible, p)
		f.params = append(f.params, p.width)
	}
	body := a.first() + a.statements(1, many)
	if !a.errs() {
		body += "return " + a.expression(f.width, 2) + "; "
	}
	a.funcs = append(a.funcs, f)
	return "func " + f.name + "(" + text + ") " + typeOf(f.width) + " { " + body + "}\n"
}

func (a *author) program() string {
	a.structs = map[string][]thing{}
	text := ""
	for range a.many(0, 2, 8) {
		text += a.structure()
	}
	for range a.many(0, 3, 12) {
		if a.r.Intn(5) == 0 && len(a.structs) < 8 {
			text += a.structure()
		}
		a.left += 10
		text += a.function(a.r.Intn(3))
	}
	a.names, a.visible = nil, nil
	a.left += 30
	return text + "parse { " + a.first() + a.statements(1, a.r.Intn(10)) + "}\n"
}

// sources are random programs that can be parsed, in an order that is always the same. In each of them things are wrong as often as is said.
func sources(seed int64, many int, wrong ...float64) []string {
	r := rand.New(rand.NewSource(seed))
	var l []string
	for len(l) < many {
		a := &author{r: r, wrong: pick(r, wrong), left: r.Intn(80)}
		a.crowded = a.wrong > 0 && r.Intn(8) == 0
		text := a.program()
		if _, diags := parser.Parse(text); len(diags) == 0 {
			l = append(l, text)
		}
	}
	return l
}

// treeOf is the tree of a source that can be parsed.
func treeOf(t *testing.T, source string) api.Node {
	t.Helper()
	n, diags := parser.Parse(source)
	if len(diags) > 0 {
		t.Fatalf("%q: %v", source, diags)
	}
	return n
}

// diagsOf are the diagnostics of a valid program.
func diagsOf(t *testing.T, n api.Node) []api.Diag {
	t.Helper()
	diags, e := check.Check(n)
	if e != api.OK {
		t.Fatalf("%v: error %d", n, e)
	}
	return diags
}

// clone is a copy of a node that shares no memory with it.
func clone(n api.Node) api.Node {
	kids := n.Kids
	n.Kids = nil
	for _, k := range kids {
		n.Kids = append(n.Kids, clone(k))
	}
	return n
}

// nodesOf are pointers to a node and to all below it, in the order in which they are gone through.
func nodesOf(n *api.Node) []*api.Node {
	l := []*api.Node{n}
	for i := range n.Kids {
		l = append(l, nodesOf(&n.Kids[i])...)
	}
	return l
}

// numbered is a tree whose nodes have their numbers as offsets.
func numbered(n api.Node) api.Node {
	n = clone(n)
	for i, node := range nodesOf(&n) {
		node.At = i
	}
	return n
}

// full is a program with all kinds of nodes, with which nothing is wrong.
const full = `struct s { a: u8, b: u16 }
struct t { a: u64 }
func g() u1 { return (len == 2:u8); }
func f(a: u8, b: u16) u8 { let c = (u8(b) + a); if g() { c = 1:u8; } else { a = c; } return (a + c); }
parse {
  let x = in[0:u8];
  let c = ~(x < 7:u8);
  x = f(x, 2:u16);
  new p: u8[4:u8];
  new r: u8[x];
  p[c] = x;
  make q: s;
  make o: s;
  q.a = p[0:u16];
  q.b = sext u16(x);
  same p = r;
  same q = o;
  while (x slt q.a) { x = u8(q.b); free r; let y = (q.b >> o.b); q.b = y; }
  if (~x >= len) { emit v = x; accept; } else { new y2: u3[g()]; free y2; reject 7; }
}
`
