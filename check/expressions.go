package check

import "formfinder/api"

// widths returns the function that finds the width of an expression at the
// place that is reached: 0 if it has none.
func (c *checker) widths() func(n api.Node) int {
	var widthOf func(n api.Node) int
	widthOf = func(n api.Node) int {
		switch n.Kind {
		case api.NodeNumber, api.NodeCast, api.NodeSext:
			return n.W
		case api.NodeIn, api.NodeLen:
			return 8
		case api.NodeVar:
			return c.known[n.Name].widthAs(integer)
		case api.NodeCell:
			return c.known[n.Name].widthAs(array)
		case api.NodePart:
			return c.widthOfPart(n)
		case api.NodeCall:
			return c.funcs[n.Name].width
		case api.NodeNot:
			return widthOf(n.Kids[0])
		case api.NodeBin:
			if n.N >= api.SignEq {
				return 1
			}
			if width := widthOf(n.Kids[0]); width == widthOf(n.Kids[1]) {
				return width
			}
		}
		return 0
	}
	return widthOf
}

// widthOfPart returns the width of the field that a node names, and 0 if there
// is none: what is no pointer to a struct has no thing with fields.
func (c *checker) widthOfPart(n api.Node) int {
	return c.structs[c.known[n.Name].thing][n.Part]
}

func (c *checker) numberError(n api.Node) api.Errno {
	return when(n.N>>n.W != 0, api.ErrRange)
}

func (c *checker) varError(n api.Node) api.Errno {
	v, found := c.known[n.Name]
	return first(
		when(!found, api.ErrName),
		when(v.isOther(integer), api.ErrKind),
	)
}

// cellError returns the error of what names a cell of an array.
func (c *checker) cellError(n api.Node) api.Errno {
	v, found := c.known[n.Name]
	return first(
		when(!found, api.ErrName),
		when(v.isOther(array), api.ErrKind),
	)
}

// partError returns the error of what names a field of a struct.
func (c *checker) partError(n api.Node) api.Errno {
	v, found := c.known[n.Name]
	return first(
		when(!found, api.ErrName),
		when(v.isOther(object), api.ErrKind),
		when(v.kind == object && c.widthOfPart(n) == 0, api.ErrName),
	)
}

func (c *checker) binError(n api.Node) api.Errno {
	return when(differ(c.widthOf(n.Kids[0]), c.widthOf(n.Kids[1])), api.ErrWidth)
}

func (c *checker) sextError(n api.Node) api.Errno {
	return when(n.W < c.widthOf(n.Kids[0]), api.ErrWidth)
}

func (c *checker) callError(n api.Node) api.Errno {
	f, found := c.funcs[n.Name]
	return first(
		when(!found, api.ErrName),
		when(len(n.Kids) != len(f.params), api.ErrCount),
		when(c.differsFrom(f.params, n.Kids), api.ErrWidth),
	)
}

// differsFrom reports whether one of some expressions does not have the width
// that is at its place.
func (c *checker) differsFrom(widths []int, l []api.Node) bool {
	for i := range min(len(widths), len(l)) {
		if differ(widths[i], c.widthOf(l[i])) {
			return true
		}
	}
	return false
}
