package parser

import "formfinder/api"

func statements() map[string]method {
	return map[string]method{
		"let":    (*reader).readLet,
		"new":    (*reader).readNew,
		"make":   (*reader).readMake,
		"free":   (*reader).readFree,
		"same":   (*reader).readSame,
		"if":     (*reader).readIf,
		"while":  (*reader).readWhile,
		"emit":   (*reader).readEmit,
		"accept": (*reader).readAccept,
		"reject": (*reader).readReject,
		"return": (*reader).readReturn,
		aName:    (*reader).readAssignment,
	}
}

func (r *reader) block() api.Node {
	if r.word() != "{" {
		r.fail(api.ErrSyntax)
	}
	return r.nested((*reader).readBlock)
}

func (r *reader) readBlock() api.Node {
	n := r.begin(api.NodeBlock, "{")
	for r.word() != "}" {
		kid, done := r.attempt((*reader).statement, onePart)
		if !done {
			r.skipStatement()
			continue
		}
		n.Kids = append(n.Kids, kid)
	}
	r.take("}")
	return n
}

func (r *reader) statement() api.Node {
	return r.choose(r.statements)(r)
}

// value reads the rest of a statement that ends with an expression.
func (r *reader) value(n api.Node) api.Node {
	n.Kids = append(n.Kids, r.expression())
	r.take(";")
	return n
}

func (r *reader) readLet() api.Node {
	return r.readNamed(api.NodeLet, "let")
}

func (r *reader) readEmit() api.Node {
	return r.readNamed(api.NodeEmit, "emit")
}

// readNamed reads a statement that gives a name to an expression.
func (r *reader) readNamed(kind int, word string) api.Node {
	n := r.begin(kind, word)
	n.Name = r.name()
	r.take("=")
	return r.value(n)
}

func (r *reader) readReturn() api.Node {
	return r.value(r.begin(api.NodeReturn, "return"))
}

// readAssignment reads what begins with a name.
func (r *reader) readAssignment() api.Node {
	t := r.take(aName)
	n := api.Node{Kind: api.NodeSet, Name: t.Text, At: t.At}
	switch r.word() {
	case "[":
		n.Kind = api.NodePut
		n.Kids = append(n.Kids, r.inBrackets())
	case ".":
		n.Kind = api.NodePutPart
		n.Part = r.part()
	}
	r.take("=")
	return r.value(n)
}

func (r *reader) readNew() api.Node {
	n := r.begin(api.NodeNew, "new")
	n.Name = r.name()
	r.take(":")
	n.W = r.width()
	n.Kids = append(n.Kids, r.inBrackets())
	r.take(";")
	return n
}

func (r *reader) readMake() api.Node {
	return r.readPair(api.NodeMake, "make", ":")
}

func (r *reader) readSame() api.Node {
	return r.readPair(api.NodeSame, "same", "=")
}

// readPair reads a statement with two names and nothing but a sign between them.
func (r *reader) readPair(kind int, word, between string) api.Node {
	n := r.begin(kind, word)
	n.Name = r.name()
	r.take(between)
	n.Part = r.name()
	r.take(";")
	return n
}

func (r *reader) readFree() api.Node {
	n := r.begin(api.NodeFree, "free")
	n.Name = r.name()
	r.take(";")
	return n
}

func (r *reader) readIf() api.Node {
	n := r.begin(api.NodeIf, "if")
	n.Kids = append(n.Kids, r.expression(), r.block())
	if r.word() == "else" {
		r.take("else")
		n.Kids = append(n.Kids, r.block())
	}
	return n
}

func (r *reader) readWhile() api.Node {
	n := r.begin(api.NodeWhile, "while")
	n.Kids = append(n.Kids, r.expression(), r.block())
	return n
}

func (r *reader) readAccept() api.Node {
	n := r.begin(api.NodeAccept, "accept")
	r.take(";")
	return n
}

func (r *reader) readReject() api.Node {
	n := r.begin(api.NodeReject, "reject")
	n.N = r.take(aNumber).N
	r.take(";")
	return n
}
