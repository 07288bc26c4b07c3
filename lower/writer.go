package lower

import (
	"slices"

	"formfinder/api"
)

// firstStruct is the kind of a pointer to the first struct.
const firstStruct = api.MaxWidth + 1

// value is the value of an instruction: an integer of a width, or a pointer of
// a kind.
type value struct {
	number      int // of the instruction
	width, kind int
}

// variable is a visible variable, with the value that it has.
type variable struct {
	name string
	value
}

// writer writes the code of a program with which nothing is wrong.
type writer struct {
	code      api.Code
	open      bool       // whether a block is open: it is the last one
	variables []variable // the environment
	calls     int        // that are written

	// The items so far.
	structs map[string]int // their numbers
	fields  [][]string     // the names of those of each struct
	funcs   map[string]api.Node

	// Methods by the kinds of what they write.
	statementMethods  map[int]statementMethod
	expressionMethods map[int]expressionMethod
}

func newWriter() *writer {
	return &writer{
		structs:           map[string]int{},
		funcs:             map[string]api.Node{},
		statementMethods:  statementMethods(),
		expressionMethods: expressionMethods(),
	}
}

// tooMuch is what a panic carries that leaves code with too much of something.
type tooMuch struct{}

// limit leaves the code if there are more of something than there may be.
func limit(many, most int) {
	if many > most {
		panic(tooMuch{})
	}
}

// attempt writes a program, and reports whether its code is within the limits.
func (w *writer) attempt(n api.Node) (fits bool) {
	defer func() {
		reason := recover()
		if reason == nil {
			return
		}
		if _, known := reason.(tooMuch); !known {
			panic(reason)
		}
		// The result is false still.
	}()
	w.program(n)
	return true
}

func (w *writer) program(n api.Node) {
	for _, kid := range n.Kids {
		switch kid.Kind {
		case api.NodeStruct:
			w.structure(kid)
		case api.NodeFunc:
			w.funcs[kid.Name] = kid
		case api.NodeBlock:
			w.parse(kid)
		}
	}
}

func (w *writer) structure(n api.Node) {
	var names []string
	var widths []int
	for _, field := range n.Kids {
		names = append(names, field.Name)
		widths = append(widths, field.W)
	}
	w.structs[n.Name] = len(w.fields)
	w.fields = append(w.fields, names)
	w.code.Structs = append(w.code.Structs, widths)
}

func (w *writer) parse(n api.Node) {
	w.begin()
	w.statements(n.Kids)
	if w.open {
		w.end(n, api.End{Kind: api.EndReject})
	}
}

// begin begins a block, and returns its number.
func (w *writer) begin() int {
	from := len(w.code.Insts)
	w.code.Blocks = append(w.code.Blocks, api.Block{From: from, Until: from})
	limit(len(w.code.Blocks), api.MaxBlocks)
	w.open = true
	return len(w.code.Blocks) - 1
}

// write writes an instruction of a node into the open block.
func (w *writer) write(n api.Node, inst api.Inst) value {
	inst.At = n.At
	w.code.Insts = append(w.code.Insts, inst)
	limit(len(w.code.Insts), api.MaxInsts)
	w.code.Blocks[len(w.code.Blocks)-1].Until++
	return value{number: len(w.code.Insts) - 1, width: inst.W, kind: inst.P}
}

// end ends the open block with an end of a node, and returns the number of the
// block. Edges say later where the end leads to.
func (w *writer) end(n api.Node, e api.End) int {
	e.At = n.At
	last := len(w.code.Blocks) - 1
	w.code.Blocks[last].End = e
	w.open = false
	return last
}

// nameNumber returns the number of the name of an emit that is written.
func (w *writer) nameNumber(name string) uint64 {
	if i := slices.Index(w.code.Names, name); i >= 0 {
		return uint64(i)
	}
	w.code.Names = append(w.code.Names, name)
	limit(len(w.code.Names), api.MaxNames)
	return uint64(len(w.code.Names) - 1)
}

// declare makes a variable visible.
func (w *writer) declare(name string, v value) {
	w.variables = append(w.variables, variable{name, v})
}

// find returns the number of a variable in the environment.
func (w *writer) find(name string) int {
	return slices.IndexFunc(w.variables, func(v variable) bool { return v.name == name })
}

// valueOf returns the value of a variable.
func (w *writer) valueOf(name string) value {
	return w.variables[w.find(name)].value
}

// assign gives a variable another value.
func (w *writer) assign(name string, v value) {
	w.variables[w.find(name)].value = v
}
