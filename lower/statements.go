package lower

import "formfinder/api"

// statementMethod writes a statement, with the values of the expressions that
// are written before it.
type statementMethod = func(w *writer, n api.Node, args []value)

func statementMethods() map[int]statementMethod {
	return map[int]statementMethod{
		api.NodeLet:     (*writer).letStatement,
		api.NodeSet:     (*writer).setStatement,
		api.NodePut:     (*writer).putStatement,
		api.NodePutPart: (*writer).putPartStatement,
		api.NodeNew:     (*writer).newStatement,
		api.NodeMake:    (*writer).makeStatement,
		api.NodeFree:    (*writer).freeStatement,
		api.NodeSame:    (*writer).sameStatement,
		api.NodeIf:      (*writer).ifStatement,
		api.NodeWhile:   (*writer).whileStatement,
		api.NodeEmit:    (*writer).emitStatement,
		api.NodeAccept:  (*writer).acceptStatement,
		api.NodeReject:  (*writer).rejectStatement,
	}
}

// statements writes statements, as far as a block is open. A call in an
// expression may have ended it before anything else of a statement is written.
func (w *writer) statements(l []api.Node) {
	for _, n := range l {
		args := w.expressions(writtenFirst(n))
		if w.open {
			w.statementMethods[n.Kind](w, n, args)
		}
	}
}

// writtenFirst returns the expressions of a statement that are written before
// anything else of it.
func writtenFirst(n api.Node) []api.Node {
	switch n.Kind {
	case api.NodeIf:
		return n.Kids[:1]
	case api.NodeWhile, api.NodePutPart:
		return nil
	}
	return n.Kids
}

func (w *writer) letStatement(n api.Node, args []value) {
	w.declare(n.Name, args[0])
}

func (w *writer) setStatement(n api.Node, args []value) {
	w.assign(n.Name, args[0])
}

func (w *writer) putStatement(n api.Node, args []value) {
	w.put(n, args[0], args[1])
}

func (w *writer) putPartStatement(n api.Node, _ []value) {
	field, _ := w.field(n)
	v := w.expression(n.Kids[0])
	if w.open {
		w.put(n, field, v)
	}
}

// put writes that a cell of the object of a statement becomes a value.
func (w *writer) put(n api.Node, index, v value) {
	pointer := w.valueOf(n.Name)
	w.write(n, api.Inst{Op: api.OpPut, A: pointer.number, B: index.number, C: v.number})
}

func (w *writer) newStatement(n api.Node, args []value) {
	w.declare(n.Name, w.write(n, api.Inst{Op: api.OpNew, P: n.W, A: args[0].number, N: uint64(n.W)}))
}

func (w *writer) makeStatement(n api.Node, _ []value) {
	number := w.structs[n.Part]
	w.declare(n.Name, w.write(n, api.Inst{Op: api.OpMake, P: firstStruct + number, N: uint64(number)}))
}

func (w *writer) freeStatement(n api.Node, _ []value) {
	w.write(n, api.Inst{Op: api.OpFree, A: w.valueOf(n.Name).number})
}

func (w *writer) sameStatement(n api.Node, _ []value) {
	w.assign(n.Name, w.valueOf(n.Part))
}

func (w *writer) emitStatement(n api.Node, args []value) {
	w.write(n, api.Inst{Op: api.OpEmit, A: args[0].number, N: w.nameNumber(n.Name)})
}

func (w *writer) acceptStatement(n api.Node, _ []value) {
	w.end(n, api.End{Kind: api.EndAccept})
}

func (w *writer) rejectStatement(n api.Node, _ []value) {
	w.end(n, api.End{Kind: api.EndReject, N: int(n.N)})
}
