package parser

import "formfinder/api"

func items() map[string]method {
	return map[string]method{
		"struct": (*reader).readStruct,
		"func":   (*reader).readFunc,
		"parse":  (*reader).readParse,
	}
}

// program reads the items, and then the block of parse.
func (r *reader) program() api.Node {
	n := api.Node{Kind: api.NodeProgram}
	for parsed := false; !parsed; {
		most := allBlocks
		if r.word() == "parse" {
			// What leaves its block goes on to the program: nothing is read behind it.
			most = onePart
		}
		kid, done := r.attempt((*reader).item, most)
		if !done {
			r.skipItem()
			continue
		}
		n.Kids = append(n.Kids, kid)
		parsed = kid.Kind == api.NodeBlock
	}
	r.take(theEnd)
	return n
}

// item reads an item, or parse.
func (r *reader) item() api.Node {
	return r.choose(r.items)(r)
}

func (r *reader) readStruct() api.Node {
	n := r.begin(api.NodeStruct, "struct")
	n.Name = r.name()
	r.take("{")
	n.Kids = r.typedNames(api.NodeField)
	r.take("}")
	return n
}

func (r *reader) readFunc() api.Node {
	n := r.begin(api.NodeFunc, "func")
	n.Name = r.name()
	r.take("(")
	if r.word() != ")" {
		n.Kids = r.typedNames(api.NodeParam)
	}
	r.take(")")
	n.W = r.width()
	n.Kids = append(n.Kids, r.block())
	return n
}

// readParse returns the block of parse: parse has no node of its own.
func (r *reader) readParse() api.Node {
	r.take("parse")
	return r.block()
}

// typedNames reads one or more names with their types, as nodes of a kind.
func (r *reader) typedNames(kind int) []api.Node {
	l := []api.Node{r.typedName(kind)}
	for r.word() == "," {
		r.take(",")
		l = append(l, r.typedName(kind))
	}
	return l
}

func (r *reader) typedName(kind int) api.Node {
	t := r.take(aName)
	r.take(":")
	return api.Node{Kind: kind, Name: t.Text, W: r.width(), At: t.At}
}
