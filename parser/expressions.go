package parser

import "formfinder/api"

func expressions() map[string]method {
	return map[string]method{
		"in":    (*reader).readIn,
		"len":   (*reader).readLen,
		"(":     (*reader).readBin,
		"~":     (*reader).readNot,
		"sext":  (*reader).readSext,
		aNumber: (*reader).readNumber,
		aName:   (*reader).readVariable,
		aType:   (*reader).readCast,
	}
}

func (r *reader) expression() api.Node {
	return r.nested(r.choose(r.expressions))
}

func (r *reader) readNumber() api.Node {
	t := r.take(aNumber)
	r.take(":")
	return api.Node{Kind: api.NodeNumber, N: t.N, W: r.width(), At: t.At}
}

// readVariable reads what begins with a name.
func (r *reader) readVariable() api.Node {
	t := r.take(aName)
	n := api.Node{Kind: api.NodeVar, Name: t.Text, At: t.At}
	switch r.word() {
	case "[":
		n.Kind = api.NodeCell
		n.Kids = append(n.Kids, r.inBrackets())
	case ".":
		n.Kind = api.NodePart
		n.Part = r.part()
	case "(":
		n.Kind = api.NodeCall
		n.Kids = r.arguments()
	}
	return n
}

// inBrackets reads an expression in brackets.
func (r *reader) inBrackets() api.Node {
	r.take("[")
	n := r.expression()
	r.take("]")
	return n
}

// part reads the name of a part, behind that of an object.
func (r *reader) part() string {
	r.take(".")
	return r.name()
}

// arguments reads the expressions of a call.
func (r *reader) arguments() []api.Node {
	var l []api.Node
	r.take("(")
	for r.word() != ")" {
		if len(l) > 0 {
			r.take(",")
		}
		l = append(l, r.expression())
	}
	r.take(")")
	return l
}

func (r *reader) readIn() api.Node {
	n := r.begin(api.NodeIn, "in")
	n.Kids = append(n.Kids, r.inBrackets())
	return n
}

func (r *reader) readLen() api.Node {
	return r.begin(api.NodeLen, "len")
}

func (r *reader) readBin() api.Node {
	n := r.begin(api.NodeBin, "(")
	left := r.expression()
	n.N = r.sign()
	n.Kids = append(n.Kids, left, r.expression())
	r.take(")")
	return n
}

// sign reads a sign, and returns its number.
func (r *reader) sign() uint64 {
	word := r.word()
	number, found := r.signs[word]
	if !found {
		r.fail(api.ErrSyntax)
	}
	r.take(word)
	return number
}

func (r *reader) readNot() api.Node {
	n := r.begin(api.NodeNot, "~")
	n.Kids = append(n.Kids, r.expression())
	return n
}

func (r *reader) readCast() api.Node {
	return r.cast(api.Node{Kind: api.NodeCast, At: r.here()})
}

func (r *reader) readSext() api.Node {
	return r.cast(r.begin(api.NodeSext, "sext"))
}

// cast reads a type, and an expression in parentheses.
func (r *reader) cast(n api.Node) api.Node {
	n.W = r.width()
	r.take("(")
	n.Kids = append(n.Kids, r.expression())
	r.take(")")
	return n
}
