package lower

import (
	"slices"

	"formfinder/api"
)

// edge leads from the end of a block to a block that may be begun later.
type edge struct {
	from      int        // the block
	isElse    bool       // whether it is the Else of a branch
	variables []variable // with the values that they have on it
}

// lead makes an edge lead to a block, with values for its parameters.
func (w *writer) lead(e edge, to int, args []int) {
	end := &w.code.Blocks[e.from].End
	if e.isElse {
		end.Else, end.ElseArgs = to, args
	} else {
		end.To, end.ToArgs = to, args
	}
}

// branch ends the open block with a branch, and returns its edges.
func (w *writer) branch(n api.Node, condition value) (to, other edge) {
	from := w.end(n, api.End{Kind: api.EndBranch, A: condition.number})
	return edge{from: from, variables: w.variables}, edge{from: from, isElse: true, variables: w.variables}
}

// jump ends the open block with a jump, and returns its edge.
func (w *writer) jump(n api.Node) edge {
	return edge{from: w.end(n, api.End{Kind: api.EndJump}), variables: w.variables}
}

// param writes a parameter of the block that was begun, like a value.
func (w *writer) param(n api.Node, like value) value {
	return w.write(n, api.Inst{Op: api.OpParam, W: like.width, P: like.kind})
}

// block writes the statements of a block that an edge leads to. What they
// declare is visible up to its end.
func (w *writer) block(e edge, n api.Node) {
	w.lead(e, w.begin(), nil)
	w.variables = slices.Clone(e.variables)
	w.statements(n.Kids)
	w.variables = w.variables[:len(e.variables)]
}

func (w *writer) ifStatement(n api.Node, args []value) {
	to, other := w.branch(n, args[0])
	var edges []edge // to the join
	w.block(to, n.Kids[1])
	if w.open {
		edges = append(edges, w.jump(n))
	}
	if len(n.Kids) == 2 {
		edges = append(edges, other)
	} else {
		w.block(other, n.Kids[2])
		if w.open {
			edges = append(edges, w.jump(n))
		}
	}
	if len(edges) > 0 {
		w.join(n, edges...)
	}
}

// join begins a block that edges lead to. It has parameters for the variables
// that do not have the same value on all of them.
func (w *writer) join(n api.Node, edges ...edge) {
	block := w.begin()
	w.variables = slices.Clone(edges[0].variables)
	args := make([][]int, len(edges))
	for i, v := range w.variables {
		differs := func(e edge) bool { return e.variables[i] != v }
		if !slices.ContainsFunc(edges, differs) {
			continue
		}
		for j, e := range edges {
			args[j] = append(args[j], e.variables[i].number)
		}
		w.variables[i].value = w.param(n, v.value)
	}
	for j, e := range edges {
		w.lead(e, block, args[j])
	}
}

func (w *writer) whileStatement(n api.Node, _ []value) {
	changed := w.changedIn(n.Kids[1])
	entry := w.jump(n)
	header := w.begin()
	w.lead(entry, header, w.numbers(changed))
	for _, i := range changed {
		w.variables[i].value = w.param(n, w.variables[i].value)
	}
	condition := w.expression(n.Kids[0])
	if !w.open {
		return
	}
	to, other := w.branch(n, condition)
	w.block(to, n.Kids[1])
	if w.open {
		w.lead(w.jump(n), header, w.numbers(changed))
	}
	w.lead(other, w.begin(), nil)
	w.variables = other.variables
}

// changedIn returns the numbers of the variables in the environment for which
// there is a set or a same in a block, whether this is written or not.
func (w *writer) changedIn(block api.Node) []int {
	names := map[string]bool{}
	addChanged(names, block)
	var l []int
	for i, v := range w.variables {
		if names[v.name] {
			l = append(l, i)
		}
	}
	return l
}

func addChanged(names map[string]bool, n api.Node) {
	if n.Kind == api.NodeSet || n.Kind == api.NodeSame {
		names[n.Name] = true
	}
	for _, kid := range n.Kids {
		addChanged(names, kid)
	}
}

// numbers returns the values of some variables, by their numbers in the
// environment.
func (w *writer) numbers(variables []int) []int {
	var l []int
	for _, i := range variables {
		l = append(l, w.variables[i].number)
	}
	return l
}
