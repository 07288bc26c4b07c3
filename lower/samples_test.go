package lower_test

import (
	"fmt"
	"math/rand"
	"slices"
	"strings"
	"testing"

	"formfinder/api"
	"formfinder/parser"
)

// The kinds of what an author declares.
const (
	anInteger = iota
	anArray
	aStruct
)

// thing is a variable, a field, or a function, that an author has declared.
type thing struct {
	name   string
	kind   int
	width  int
	of     string // the struct of a pointer
	params []int
}

// author writes random programs with which nothing is wrong.
type author struct {
	r    *rand.Rand
	left int // how many expressions and statements there may be, about

	structs map[string][]thing
	funcs   []thing
	items   []string
	names   []string // of the variables of the function
	visible []thing
}

func pick[T any](r *rand.Rand, l []T) T { return l[r.Intn(len(l))] }

// Names are few, so that the same ones are used for all sorts of things.
var someNames = []string{"a", "b", "c", "d", "p", "q", "s", "f"}

// fresh is a name that is not among these.
func (a *author) fresh(used []string) string {
	name := pick(a.r, someNames)
	for i := 0; slices.Contains(used, name); i++ {
		name = pick(a.r, someNames) + fmt.Sprint(a.r.Intn(i+1))
	}
	return name
}

func (a *author) width() int { return pick(a.r, []int{1, 8, 8, 8, 8, 16, 64, 1 + a.r.Intn(64)}) }

func typeOf(width int) string { return fmt.Sprint("u", width) }

// find is a random one of the visible variables that are as a function says.
func (a *author) find(fits func(v thing) bool) (thing, bool) {
	var l []thing
	for _, v := range a.visible {
		if fits(v) {
			l = append(l, v)
		}
	}
	if len(l) == 0 {
		return thing{}, false
	}
	return pick(a.r, l), true
}

func (a *author) number(width int) string {
	n := a.r.Uint64() & (1<<width - 1)
	return fmt.Sprint(pick(a.r, []uint64{n, n >> 40, n & 7 % 2, n & 3, n & 7}), ":", typeOf(width))
}

// expression writes an expression of a width.
func (a *author) expression(width, depth int) string {
	a.left--
	x := func(width int) string { return a.expression(width, depth+1) }
	kind := a.r.Intn(18)
	if depth >= 10 || a.left <= 0 {
		kind = a.r.Intn(6)
	}
	switch kind {
	case 0, 1, 2, 3:
		if v, ok := a.find(func(v thing) bool { return v.kind == anInteger && v.width == width }); ok {
			return v.name
		}
	case 4:
		if p, f := a.part(width); p != "" {
			return p + "." + f.name
		}
	case 5:
		if width == 8 {
			return "len"
		}
	case 6, 7:
		if width == 8 {
			return "in[" + a.index(depth+1) + "]"
		}
	case 8:
		if v, ok := a.find(func(v thing) bool { return v.kind == anArray && v.width == width }); ok {
			return v.name + "[" + a.index(depth+1) + "]"
		}
	case 9, 10:
		return "(" + x(width) + " " + pick(a.r, signs[:10]) + " " + x(width) + ")"
	case 11, 12:
		if width == 1 {
			w := a.width()
			return "(" + x(w) + " " + pick(a.r, signs[10:]) + " " + x(w) + ")"
		}
	case 13:
		return "~" + x(width)
	case 14:
		return typeOf(width) + "(" + x(a.width()) + ")"
	case 15:
		return "sext " + typeOf(width) + "(" + x(1+a.r.Intn(width)) + ")"
	case 16, 17:
		if text := a.call(width, x); text != "" {
			return text
		}
	}
	return a.number(width)
}

// index writes an expression that is a small number most times.
func (a *author) index(depth int) string {
	if a.r.Intn(4) > 0 {
		return fmt.Sprint(a.r.Intn(4), ":", typeOf(2+a.r.Intn(63)))
	}
	return a.expression(a.width(), depth)
}

var signs = strings.Fields("+ - * / % & | ^ << >> == != < <= > >= slt")

// part is a pointer to a struct with a field of it, if there are such: one of a width, or any one if this is 0.
func (a *author) part(width int) (string, thing) {
	fits := func(f thing) bool { return width == 0 || f.width == width }
	v, ok := a.find(func(v thing) bool { return v.kind == aStruct && slices.ContainsFunc(a.structs[v.of], fits) })
	if !ok {
		return "", thing{}
	}
	return v.name, pick(a.r, slices.DeleteFunc(slices.Clone(a.structs[v.of]), func(f thing) bool { return !fits(f) }))
}

func (a *author) call(width int, x func(width int) string) string {
	l := slices.DeleteFunc(slices.Clone(a.funcs), func(f thing) bool { return f.width != width })
	if len(l) == 0 {
		return ""
	}
	f := pick(a.r, l)
	var args []string
	for _, w := range f.params {
		args = append(args, x(w))
	}
	return f.name + "(" + strings.Join(args, ", ") + ")"
}

// declare adds a variable, and returns its name.
func (a *author) declare(v thing) string {
	v.name = a.fresh(a.names)
	a.names = append(a.names, v.name)
	a.visible = append(a.visible, v)
	return v.name
}

// first writes declarations of variables, some of which are alike.
func (a *author) first() string {
	text := ""
	for i := range a.r.Intn(6) {
		text += fmt.Sprintf("let %s = in[%d:u8]; ", a.declare(thing{width: 8}), i)
	}
	for range a.r.Intn(3) {
		text += fmt.Sprintf("new %s: u8[4:u8]; ", a.declare(thing{kind: anArray, width: 8}))
	}
	if l := a.structNames(); len(l) > 0 {
		s := pick(a.r, l)
		for range a.r.Intn(3) {
			text += fmt.Sprintf("make %s: %s; ", a.declare(thing{kind: aStruct, of: s}), s)
		}
	}
	return text
}

// statements writes the statements of a block of a depth.
func (a *author) statements(depth, many int) string {
	text := ""
	for range many {
		text += a.statement(depth) + " "
	}
	return text
}

// block writes the statements of a block within another one. It ends now and then, behind which other statements may stand.
func (a *author) block(depth int) string {
	visible := slices.Clone(a.visible)
	text := a.statements(depth, a.r.Intn(4))
	if a.r.Intn(5) == 0 {
		text += a.end() + " " + a.statements(depth, a.r.Intn(2))
	}
	a.visible = visible
	return text
}

func (a *author) end() string {
	return pick(a.r, []string{"accept;", fmt.Sprint("reject ", a.r.Intn(256), ";")})
}

func (a *author) statement(depth int) string {
	a.left--
	room := len(a.names) < 40
	w := a.width()
	if depth >= 10 || a.left <= 0 {
		return a.end()
	}
	x := func(width int) string { return a.expression(width, depth+1) }
	switch kind := a.r.Intn(24); {
	case kind < 4 && room:
		e := x(w)
		return "let " + a.declare(thing{width: w}) + " = " + e + ";"
	case kind < 6 && room:
		e := pick(a.r, []string{fmt.Sprint(a.r.Intn(17), ":u5"), x(a.width())})
		return "new " + a.declare(thing{kind: anArray, width: w}) + ": " + typeOf(w) + "[" + e + "];"
	case kind < 8 && room && len(a.structs) > 0:
		s := pick(a.r, a.structNames())
		return "make " + a.declare(thing{kind: aStruct, of: s}) + ": " + s + ";"
	case kind < 11:
		if v, ok := a.find(func(v thing) bool { return v.kind == anInteger }); ok {
			return v.name + " = " + x(v.width) + ";"
		}
	case kind < 12:
		if v, ok := a.find(func(v thing) bool { return v.kind == anArray }); ok {
			return v.name + "[" + a.index(depth+1) + "] = " + x(v.width) + ";"
		}
	case kind < 13:
		if p, f := a.part(0); p != "" {
			return p + "." + f.name + " = " + x(f.width) + ";"
		}
	case kind < 15:
		return a.pointers()
	case kind < 19:
		text := "if " + x(1) + " { " + a.block(depth+1) + "}"
		if a.r.Intn(2) == 0 {
			text += " else { " + a.block(depth+1) + "}"
		}
		return text
	case kind < 21:
		return a.while(depth, room)
	}
	return "emit " + pick(a.r, someNames) + " = " + x(w) + ";"
}

// while writes a while, most times with a variable that counts.
func (a *author) while(depth int, room bool) string {
	x := func(width int) string { return a.expression(width, depth+1) }
	if !room || a.r.Intn(3) == 0 {
		return "while " + x(1) + " { " + a.block(depth+1) + "}"
	}
	// it cannot be changed elsewhere
	name := a.fresh(a.names)
	a.names = append(a.names, name)
	condition := fmt.Sprintf("(%s < %d:u8)", name, 1+a.r.Intn(4))
	if depth < 9 && a.r.Intn(3) == 0 {
		condition = "(" + condition + " & " + x(1) + ")"
	}
	return fmt.Sprintf("let %s = 0:u8; while %s { %s = (%s + 1:u8); %s}", name, condition, name, name, a.block(depth+1))
}

// pointers writes a statement that is about pointers alone.
func (a *author) pointers() string {
	v, ok := a.find(func(v thing) bool { return v.kind != anInteger })
	w, _ := a.find(func(w thing) bool { return w.kind == v.kind && w.width == v.width && w.of == v.of })
	switch {
	case !ok:
		return "emit none = len;"
	case a.r.Intn(4) == 0:
		return "free " + v.name + ";"
	}
	return "same " + v.name + " = " + w.name + ";"
}

// structNames are those of the structs, in an order that is always the same.
func (a *author) structNames() []string {
	var l []string
	for name := range a.structs {
		l = append(l, name)
	}
	slices.Sort(l)
	return l
}

// typedNames writes fields or parameters.
func (a *author) typedNames(many int) (string, []thing) {
	var texts, names []string
	var l []thing
	for range many {
		v := thing{name: a.fresh(names), width: a.width()}
		names = append(names, v.name)
		texts = append(texts, v.name+": "+typeOf(v.width))
		l = append(l, v)
	}
	return strings.Join(texts, ", "), l
}

func (a *author) structure() string {
	name := a.fresh(a.items)
	a.items = append(a.items, name)
	text, fields := a.typedNames(1 + a.r.Intn(4))
	a.structs[name] = fields
	return "struct " + name + " { " + text + " }\n"
}

func (a *author) function(many int) string {
	f := thing{name: a.fresh(a.items), width: a.width()}
	a.items = append(a.items, f.name)
	text, params := a.typedNames(a.r.Intn(4))
	a.names, a.visible = nil, nil
	for _, p := range params {
		a.names = append(a.names, p.name)
		a.visible = append(a.visible, p)
		f.params = append(f.params, p.width)
	}
	body := a.statements(1, many) + "return " + a.expression(f.width, 2) + "; "
	a.funcs = append(a.funcs, f)
	return "func " + f.name + "(" + text + ") " + typeOf(f.width) + " { " + body + "}\n"
}

func (a *author) program() string {
	a.structs = map[string][]thing{}
	text := ""
	for range a.r.Intn(3) {
		text += a.structure()
	}
	for range a.r.Intn(4) {
		if a.r.Intn(5) == 0 {
			text += a.structure()
		}
		left := a.left
		a.left = 15
		text += a.function(a.r.Intn(3))
		a.left = left
	}
	a.names, a.visible = nil, nil
	return text + "parse { " + a.first() + a.statements(1, 2+a.r.Intn(10)) + "}\n"
}

// sources are random programs with which nothing is wrong, and which are not too long, in an order that is always the same.
func sources(seed int64, many int) []string {
	r := rand.New(rand.NewSource(seed))
	var l []string
	for len(l) < many {
		a := &author{r: r, left: 20 + r.Intn(150)}
		text := a.program()
		if _, diags := parser.Parse(text); len(diags) == 0 {
			l = append(l, text)
		}
	}
	return l
}

// sampled is a random program with its code.
type sampled struct {
	source string
	tree   api.Node
	code   api.Code
}

// samples are random programs with their codes, but for those that would have too much of something.
func samples(t *testing.T, seed int64, many int) []sampled {
	t.Helper()
	var l []sampled
	for _, source := range sources(seed, many) {
		n := treeOf(t, source)
		if expectModel(t, n) == api.OK {
			l = append(l, sampled{source, n, codeOf(t, n)})
		}
	}
	if len(l) < many*9/10 {
		t.Errorf("few programs that are not too large: %d of %d", len(l), many)
	}
	return l
}

// full is a program with all kinds of nodes.
const full = `struct s { a: u8, b: u16 }
struct t { a: u64 }
func g() u1 { return (len == 2:u8); }
func f(a: u8, b: u16) u8 { let c = (u8(b) + a); if g() { c = 1:u8; } else { a = c; } return (a + c); }
parse {
  let x = in[0:u8];
  let c = ~(x < 7:u8);
  x = f(x, 2:u16);
  new p: u8[4:u8];
  new r: u8[x];
  p[c] = x;
  make q: s;
  make o: s;
  q.a = p[0:u16];
  q.b = sext u16(x);
  same p = r;
  same q = o;
  while (x slt q.a) { x = u8(q.b); free r; let y = (q.b >> o.b); q.b = y; }
  if (~x >= len) { emit v = x; accept; } else { new y2: u3[g()]; free y2; reject 7; }
}
`
