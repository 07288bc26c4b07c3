package check

import "formfinder/api"

// fields are the widths of the fields of a struct, or of the parameters of a
// function, by their names.
type fields map[string]int

// signature is what calls of a function must fit to.
type signature struct {
	width  int
	params []int // their widths
}

// program goes through the items, and then parse.
func (c *checker) program(n api.Node) {
	for _, kid := range n.Kids {
		switch kid.Kind {
		case api.NodeStruct:
			c.structure(kid)
		case api.NodeFunc:
			c.function(kid)
		case api.NodeBlock:
			c.begin(0)
			c.block(kid, false)
		}
	}
}

func (c *checker) structure(n api.Node) {
	c.report(n, c.itemError(n, api.MaxStructs))
	widths := c.typedNames(n.Kids, api.MaxFields)
	if _, found := c.structs[n.Name]; !found {
		c.structs[n.Name] = widths
	}
	c.leave(n)
}

func (c *checker) function(n api.Node) {
	c.report(n, c.itemError(n, api.MaxFuncs))
	params, block := n.Kids[:len(n.Kids)-1], n.Kids[len(n.Kids)-1]
	c.begin(n.W)
	for name, width := range c.typedNames(params, api.MaxParams) {
		c.add(name, variable{kind: integer, width: width})
	}
	c.report(block, when(!endsWithReturn(block), api.ErrEnd))
	c.block(block, true)
	if _, found := c.funcs[n.Name]; !found {
		c.funcs[n.Name] = signatureOf(n.W, params...)
	}
	c.leave(n)
}

// itemError returns the error of an item, of which there may be as many of its
// kind as a limit says.
func (c *checker) itemError(n api.Node, limit int) api.Errno {
	return first(
		when(c.taken[n.Name], api.ErrTwice),
		when(c.many[n.Kind] >= limit, api.ErrLimit),
	)
}

// leave ends an item: only what is behind it can refer to it.
func (c *checker) leave(n api.Node) {
	c.taken[n.Name] = true
	c.many[n.Kind]++
}

// typedNames reports the errors of fields or parameters, and returns the widths
// of the first ones with their names.
func (c *checker) typedNames(l []api.Node, limit int) fields {
	widths := fields{}
	for i, n := range l {
		_, found := widths[n.Name]
		c.report(n, first(when(found, api.ErrTwice), when(i >= limit, api.ErrLimit)))
		if !found {
			widths[n.Name] = n.W
		}
	}
	return widths
}

func signatureOf(width int, params ...api.Node) signature {
	s := signature{width: width}
	for _, p := range params {
		s.params = append(s.params, p.W)
	}
	return s
}

func endsWithReturn(block api.Node) bool {
	many := len(block.Kids)
	return many > 0 && block.Kids[many-1].Kind == api.NodeReturn
}
