package parser

import (
	"slices"
	"strings"

	"formfinder/api"
)

// The sorts of nodes, by the places where they can stand. The program stands nowhere.
const (
	anItem       = "i"
	aField       = "f"
	aParam       = "p"
	aBlock       = "b"
	aStatement   = "s"
	anExpression = "e"
)

// The fields that a node may use, apart from At and Kids.
const (
	useName = 1 << iota
	usePart
	useNumber
	useWidth
)

// form is what nodes of a kind are like. The kids of some kinds differ from
// node to node; kidsFit says which those are.
type form struct {
	sort   string
	fields int
	kids   string
}

// forms is by kinds.
var forms = [...]form{
	api.NodeProgram: {},
	api.NodeStruct:  {sort: anItem, fields: useName},
	api.NodeField:   {sort: aField, fields: useName | useWidth},
	api.NodeFunc:    {sort: anItem, fields: useName | useWidth},
	api.NodeParam:   {sort: aParam, fields: useName | useWidth},
	api.NodeBlock:   {sort: aBlock},
	api.NodeLet:     {sort: aStatement, fields: useName, kids: anExpression},
	api.NodeSet:     {sort: aStatement, fields: useName, kids: anExpression},
	api.NodePut:     {sort: aStatement, fields: useName, kids: anExpression + anExpression},
	api.NodePutPart: {sort: aStatement, fields: useName | usePart, kids: anExpression},
	api.NodeNew:     {sort: aStatement, fields: useName | useWidth, kids: anExpression},
	api.NodeMake:    {sort: aStatement, fields: useName | usePart},
	api.NodeFree:    {sort: aStatement, fields: useName},
	api.NodeSame:    {sort: aStatement, fields: useName | usePart},
	api.NodeIf:      {sort: aStatement},
	api.NodeWhile:   {sort: aStatement, kids: anExpression + aBlock},
	api.NodeEmit:    {sort: aStatement, fields: useName, kids: anExpression},
	api.NodeAccept:  {sort: aStatement},
	api.NodeReject:  {sort: aStatement, fields: useNumber},
	api.NodeReturn:  {sort: aStatement, kids: anExpression},
	api.NodeNumber:  {sort: anExpression, fields: useNumber | useWidth},
	api.NodeVar:     {sort: anExpression, fields: useName},
	api.NodeIn:      {sort: anExpression, kids: anExpression},
	api.NodeLen:     {sort: anExpression},
	api.NodeCell:    {sort: anExpression, fields: useName, kids: anExpression},
	api.NodePart:    {sort: anExpression, fields: useName | usePart},
	api.NodeBin:     {sort: anExpression, fields: useNumber, kids: anExpression + anExpression},
	api.NodeNot:     {sort: anExpression, kids: anExpression},
	api.NodeCast:    {sort: anExpression, fields: useWidth, kids: anExpression},
	api.NodeSext:    {sort: anExpression, fields: useWidth, kids: anExpression},
	api.NodeCall:    {sort: anExpression, fields: useName},
}

// valid reports whether a node, and all below it, are as the grammar says; it
// is part of as many blocks and expressions as depth says.
func valid(n api.Node, depth int) bool {
	if !isKind(n.Kind) {
		return false
	}
	sort := forms[n.Kind].sort
	if sort == aBlock || sort == anExpression {
		depth++
	}
	if depth > api.MaxDepth || !fieldsFit(n) || !kidsFit(n) {
		return false
	}
	return !slices.ContainsFunc(n.Kids, func(kid api.Node) bool { return !valid(kid, depth) })
}

func isKind(kind int) bool {
	return api.NodeProgram <= kind && kind < len(forms)
}

func fieldsFit(n api.Node) bool {
	fields := forms[n.Kind].fields
	return textFits(n.Name, fields&useName != 0) &&
		textFits(n.Part, fields&usePart != 0) &&
		numberFits(n, fields&useNumber != 0) &&
		widthFits(n.W, fields&useWidth != 0)
}

func textFits(text string, used bool) bool {
	if !used {
		return text == ""
	}
	return isName(text)
}

func numberFits(n api.Node, used bool) bool {
	switch {
	case !used:
		return n.N == 0
	case n.Kind == api.NodeBin:
		return api.SignAdd <= n.N && n.N <= api.SignSlt
	}
	return true
}

func widthFits(w int, used bool) bool {
	if !used {
		return w == 0
	}
	return 1 <= w && w <= api.MaxWidth
}

// kidsFit reports whether a node has kids of the sorts that its kind has.
func kidsFit(n api.Node) bool {
	sorts := sortsOf(n.Kids)
	switch n.Kind {
	case api.NodeProgram:
		return strings.TrimLeft(sorts, anItem) == aBlock
	case api.NodeStruct:
		return sorts != "" && strings.TrimLeft(sorts, aField) == ""
	case api.NodeFunc:
		return strings.TrimLeft(sorts, aParam) == aBlock
	case api.NodeBlock:
		return strings.TrimLeft(sorts, aStatement) == ""
	case api.NodeCall:
		return strings.TrimLeft(sorts, anExpression) == ""
	case api.NodeIf:
		return sorts == anExpression+aBlock || sorts == anExpression+aBlock+aBlock
	}
	return sorts == forms[n.Kind].kids
}

// sortsOf returns the sorts of nodes. What has no sort has a blank, which fits
// nowhere.
func sortsOf(l []api.Node) string {
	var b strings.Builder
	for _, n := range l {
		sort := " "
		if isKind(n.Kind) && n.Kind != api.NodeProgram {
			sort = forms[n.Kind].sort
		}
		b.WriteString(sort)
	}
	return b.String()
}

// maxAbove is how many nodes a node that is stripped may be below.
const maxAbove = 1000

// strip returns a node without offsets, and whether it is not too deep. A slice
// of nodes may contain itself, so the depth is what ends the work.
func strip(n api.Node, above int) (api.Node, bool) {
	if above > maxAbove {
		return api.Node{}, false
	}
	kids := n.Kids
	n.At, n.Kids = 0, nil
	for _, kid := range kids {
		stripped, ok := strip(kid, above+1)
		if !ok {
			return api.Node{}, false
		}
		n.Kids = append(n.Kids, stripped)
	}
	return n, true
}
