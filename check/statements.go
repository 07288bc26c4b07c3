package check

import (
	"maps"

	"formfinder/api"
)

// block goes through the statements of a block: that of a function, or another
// one. What they declare is known up to its end.
func (c *checker) block(n api.Node, ofFunction bool) {
	outer := c.known
	c.known = maps.Clone(outer)
	for i, kid := range n.Kids {
		if c.full() {
			// What follows does not matter, and could have more variables
			// than are fast to copy for each block.
			break
		}
		c.last = ofFunction && i == len(n.Kids)-1
		c.visit(kid)
	}
	c.known = outer
}

// visit goes through a statement or an expression.
func (c *checker) visit(n api.Node) {
	if errorOf, found := c.errors[n.Kind]; found {
		c.report(n, errorOf(c, n))
	}
	for _, kid := range n.Kids {
		if kid.Kind == api.NodeBlock {
			c.block(kid, false)
		} else {
			c.visit(kid)
		}
	}
	c.declare(n)
}

func (c *checker) declarationError(n api.Node) api.Errno {
	return first(
		when(c.names[n.Name], api.ErrTwice),
		when(len(c.names) >= api.MaxLocals, api.ErrLimit),
	)
}

func (c *checker) makeError(n api.Node) api.Errno {
	_, found := c.structs[n.Part]
	return first(
		c.declarationError(n),
		when(!found, api.ErrName),
	)
}

func (c *checker) setError(n api.Node) api.Errno {
	v, found := c.known[n.Name]
	return first(
		when(!found, api.ErrName),
		when(v.isOther(integer), api.ErrKind),
		when(differ(v.widthAs(integer), c.widthOf(n.Kids[0])), api.ErrWidth),
	)
}

func (c *checker) putError(n api.Node) api.Errno {
	v := c.known[n.Name]
	return first(
		c.cellError(n),
		when(differ(v.widthAs(array), c.widthOf(n.Kids[1])), api.ErrWidth),
	)
}

func (c *checker) putPartError(n api.Node) api.Errno {
	return first(
		c.partError(n),
		when(differ(c.widthOfPart(n), c.widthOf(n.Kids[0])), api.ErrWidth),
	)
}

func (c *checker) freeError(n api.Node) api.Errno {
	v, found := c.known[n.Name]
	return first(
		when(!found, api.ErrName),
		when(v.kind == integer, api.ErrKind),
	)
}

func (c *checker) sameError(n api.Node) api.Errno {
	v, found := c.known[n.Name]
	w, foundPart := c.known[n.Part]
	if found && foundPart && (v.kind == noKind || w.kind == noKind) {
		return api.OK
	}
	return first(
		when(!found || !foundPart, api.ErrName),
		when(v.kind == integer || v != w, api.ErrKind),
	)
}

func (c *checker) conditionError(n api.Node) api.Errno {
	return when(differ(c.widthOf(n.Kids[0]), 1), api.ErrWidth)
}

func (c *checker) rejectError(n api.Node) api.Errno {
	return when(n.N > 255, api.ErrRange)
}

func (c *checker) returnError(n api.Node) api.Errno {
	return first(
		when(!c.last, api.ErrEnd),
		when(differ(c.widthOf(n.Kids[0]), c.width), api.ErrWidth),
	)
}
