package check

import "formfinder/api"

// checker goes through the nodes of a valid program.
type checker struct {
	diags []api.Diag

	// The items so far.
	taken   map[string]bool // their names
	many    map[int]int     // how many there are, by their kinds
	structs map[string]fields
	funcs   map[string]signature

	// The function that is gone through, or parse.
	width int             // of the function
	names map[string]bool // of all its variables so far
	known variables       // at the place that is reached
	last  bool            // whether the statement is the last one of the block of a function

	errors  map[int]method       // by the kinds of nodes
	widthOf func(n api.Node) int // of an expression: 0 if it has none
}

// method returns the error of a node, or api.OK.
type method = func(c *checker, n api.Node) api.Errno

func newChecker() *checker {
	c := &checker{
		taken:   map[string]bool{},
		many:    map[int]int{},
		structs: map[string]fields{},
		funcs:   map[string]signature{},
		errors:  errorsOfNodes(),
	}
	c.widthOf = c.widths()
	return c
}

// errorsOfNodes returns the methods for statements and expressions. Those of
// other kinds have no errors.
func errorsOfNodes() map[int]method {
	return map[int]method{
		api.NodeLet:     (*checker).declarationError,
		api.NodeNew:     (*checker).declarationError,
		api.NodeMake:    (*checker).makeError,
		api.NodeSet:     (*checker).setError,
		api.NodePut:     (*checker).putError,
		api.NodePutPart: (*checker).putPartError,
		api.NodeFree:    (*checker).freeError,
		api.NodeSame:    (*checker).sameError,
		api.NodeIf:      (*checker).conditionError,
		api.NodeWhile:   (*checker).conditionError,
		api.NodeReject:  (*checker).rejectError,
		api.NodeReturn:  (*checker).returnError,
		api.NodeNumber:  (*checker).numberError,
		api.NodeVar:     (*checker).varError,
		api.NodeCell:    (*checker).cellError,
		api.NodePart:    (*checker).partError,
		api.NodeBin:     (*checker).binError,
		api.NodeSext:    (*checker).sextError,
		api.NodeCall:    (*checker).callError,
	}
}

// report adds the error of a node, if it has one.
func (c *checker) report(n api.Node, e api.Errno) {
	if e != api.OK && !c.full() {
		c.diags = append(c.diags, api.Diag{Err: e, At: n.At})
	}
}

// full reports whether there are as many diagnostics as there can be.
func (c *checker) full() bool {
	return len(c.diags) == api.MaxDiags
}

// first returns the first error, or api.OK if there is none.
func first(errors ...api.Errno) api.Errno {
	for _, e := range errors {
		if e != api.OK {
			return e
		}
	}
	return api.OK
}

// when returns an error if something is wrong, and api.OK otherwise.
func when(wrong bool, e api.Errno) api.Errno {
	if wrong {
		return e
	}
	return api.OK
}

// differ reports whether two widths are not the same. A width that is missing
// is not compared.
func differ(a, b int) bool {
	return a != 0 && b != 0 && a != b
}
