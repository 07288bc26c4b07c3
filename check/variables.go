package check

import "formfinder/api"

// The kinds of variables.
const (
	noKind = iota // nothing is reported about it
	integer
	array  // a pointer to an array
	object // a pointer to a struct
)

// variable is what a name of a function stands for. Two pointers are to the
// same kind of thing exactly if they are equal: at all places of a function a
// name stands for one struct.
type variable struct {
	kind  int
	width int    // of the integer, or of the cells of the array
	thing string // the name of the struct
}

// variables are by their names.
type variables map[string]variable

// isOther reports whether a variable is of another kind than it must be.
func (v variable) isOther(kind int) bool {
	return v.kind != noKind && v.kind != kind
}

// widthAs returns the width of a variable of this kind, and 0 for others.
func (v variable) widthAs(kind int) int {
	if v.kind != kind {
		return 0
	}
	return v.width
}

// begin begins a function, or parse.
func (c *checker) begin(width int) {
	c.width = width
	c.names = map[string]bool{}
	c.known = variables{}
}

// add makes a variable known.
func (c *checker) add(name string, v variable) {
	c.names[name] = true
	c.known[name] = v
}

// declare makes the variable known that a statement declares, if it does.
func (c *checker) declare(n api.Node) {
	switch n.Kind {
	case api.NodeLet, api.NodeNew, api.NodeMake:
		if !c.names[n.Name] {
			c.add(n.Name, c.declared(n))
		}
	}
}

// declared returns what a statement declares.
func (c *checker) declared(n api.Node) variable {
	switch n.Kind {
	case api.NodeNew:
		return variable{kind: array, width: n.W}
	case api.NodeMake:
		if _, found := c.structs[n.Part]; found {
			return variable{kind: object, thing: n.Part}
		}
	case api.NodeLet:
		if width := c.widthOf(n.Kids[0]); width != 0 {
			return variable{kind: integer, width: width}
		}
	}
	return variable{}
}
