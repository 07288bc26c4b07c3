package lower

import (
	"slices"

	"formfinder/api"
)

// expressionMethod writes an expression, with the values of its kids, which are
// written before it.
type expressionMethod = func(w *writer, n api.Node, args []value) value

func expressionMethods() map[int]expressionMethod {
	return map[int]expressionMethod{
		api.NodeNumber: (*writer).number,
		api.NodeLen:    (*writer).length,
		api.NodeVar:    (*writer).variable,
		api.NodeIn:     (*writer).inputByte,
		api.NodeCell:   (*writer).cell,
		api.NodePart:   (*writer).part,
		api.NodeBin:    (*writer).binary,
		api.NodeNot:    (*writer).not,
		api.NodeCast:   (*writer).cast,
		api.NodeSext:   (*writer).cast,
		api.NodeCall:   (*writer).call,
	}
}

// expression writes an expression, and returns its value, if a block is open
// at its end.
func (w *writer) expression(n api.Node) value {
	args := w.expressions(n.Kids)
	if !w.open {
		return value{}
	}
	return w.expressionMethods[n.Kind](w, n, args)
}

// expressions writes expressions, and returns their values, if a block is open
// at their end.
func (w *writer) expressions(l []api.Node) []value {
	var values []value
	for _, n := range l {
		values = append(values, w.expression(n))
	}
	return values
}

func (w *writer) number(n api.Node, _ []value) value {
	return w.write(n, api.Inst{Op: api.OpConst, W: n.W, N: n.N})
}

func (w *writer) length(n api.Node, _ []value) value {
	return w.write(n, api.Inst{Op: api.OpLen, W: 8})
}

func (w *writer) variable(n api.Node, _ []value) value {
	return w.valueOf(n.Name)
}

func (w *writer) inputByte(n api.Node, args []value) value {
	return w.write(n, api.Inst{Op: api.OpByte, W: 8, A: args[0].number})
}

func (w *writer) cell(n api.Node, args []value) value {
	return w.load(n, args[0], w.valueOf(n.Name).kind)
}

func (w *writer) part(n api.Node, _ []value) value {
	field, width := w.field(n)
	return w.load(n, field, width)
}

// load writes that a cell of a width is read, of the object of a node.
func (w *writer) load(n api.Node, index value, width int) value {
	return w.write(n, api.Inst{Op: api.OpLoad, W: width, A: w.valueOf(n.Name).number, B: index.number})
}

// field writes the number of the field that a node names, and returns it with
// the width of the field.
func (w *writer) field(n api.Node) (field value, width int) {
	structure := w.valueOf(n.Name).kind - firstStruct
	i := slices.Index(w.fields[structure], n.Part)
	return w.write(n, api.Inst{Op: api.OpConst, W: 8, N: uint64(i)}), w.code.Structs[structure][i]
}

// operation is what a sign is written as.
type operation struct {
	op        int
	exchanged bool // the arguments
	opposite  bool // of the result
}

var operations = [...]operation{
	api.SignAdd: {op: api.OpAdd},
	api.SignSub: {op: api.OpSub},
	api.SignMul: {op: api.OpMul},
	api.SignDiv: {op: api.OpDiv},
	api.SignRem: {op: api.OpRem},
	api.SignAnd: {op: api.OpAnd},
	api.SignOr:  {op: api.OpOr},
	api.SignXor: {op: api.OpXor},
	api.SignShl: {op: api.OpShl},
	api.SignShr: {op: api.OpShr},
	api.SignEq:  {op: api.OpEq},
	api.SignNe:  {op: api.OpEq, opposite: true},
	api.SignLt:  {op: api.OpLt},
	api.SignLe:  {op: api.OpLt, exchanged: true, opposite: true},
	api.SignGt:  {op: api.OpLt, exchanged: true},
	api.SignGe:  {op: api.OpLt, opposite: true},
	api.SignSlt: {op: api.OpSlt},
}

func (w *writer) binary(n api.Node, args []value) value {
	o := operations[n.N]
	a, b := args[0], args[1]
	if o.exchanged {
		a, b = b, a
	}
	width := a.width
	if o.op >= api.OpEq {
		width = 1
	}
	v := w.write(n, api.Inst{Op: o.op, W: width, A: a.number, B: b.number})
	if o.opposite {
		v = w.not(n, []value{v})
	}
	return v
}

func (w *writer) not(n api.Node, args []value) value {
	return w.write(n, api.Inst{Op: api.OpNot, W: args[0].width, A: args[0].number})
}

// cast gives a value another width, with zeros or with copies of its highest
// bit if it becomes wider.
func (w *writer) cast(n api.Node, args []value) value {
	op := api.OpZext
	switch {
	case n.W == args[0].width:
		return args[0]
	case n.W < args[0].width:
		op = api.OpPart
	case n.Kind == api.NodeSext:
		op = api.OpSext
	}
	return w.write(n, api.Inst{Op: op, W: n.W, A: args[0].number})
}

// call writes the statements and the return of a function in the place of its
// call.
func (w *writer) call(n api.Node, args []value) value {
	w.calls++
	limit(w.calls, api.MaxInsts)
	f := w.funcs[n.Name]
	many := len(f.Kids) - 1
	statements := f.Kids[many].Kids
	last := len(statements) - 1

	caller := w.variables
	w.variables = nil
	for i, param := range f.Kids[:many] {
		w.declare(param.Name, args[i])
	}
	w.statements(statements[:last])
	v := w.expression(statements[last].Kids[0])
	w.variables = caller
	return v
}
