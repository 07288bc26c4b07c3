package printer

import (
	"strconv"
	"strings"

	"formfinder/api"
)

// words returns what the statements and the expressions of a kind begin with.
// Kinds that are not here begin with something else than a fixed text.
func words() map[int]string {
	return map[int]string{
		api.NodeLet:    "let ",
		api.NodeNew:    "new ",
		api.NodeMake:   "make ",
		api.NodeFree:   "free ",
		api.NodeSame:   "same ",
		api.NodeIf:     "if ",
		api.NodeWhile:  "while ",
		api.NodeEmit:   "emit ",
		api.NodeAccept: "accept",
		api.NodeReject: "reject ",
		api.NodeReturn: "return ",
		api.NodeIn:     "in",
		api.NodeLen:    "len",
		api.NodeNot:    "~",
		api.NodeSext:   "sext ",
	}
}

// signTexts has the texts of the signs by their numbers.
type signTexts [api.SignSlt + 1]string

func signs() signTexts {
	return signTexts{
		api.SignAdd: "+", api.SignSub: "-", api.SignMul: "*", api.SignDiv: "/", api.SignRem: "%",
		api.SignAnd: "&", api.SignOr: "|", api.SignXor: "^", api.SignShl: "<<", api.SignShr: ">>",
		api.SignEq: "==", api.SignNe: "!=", api.SignLt: "<", api.SignLe: "<=",
		api.SignGt: ">", api.SignGe: ">=", api.SignSlt: "slt",
	}
}

// join returns the text that consists of parts.
func join(parts ...string) string {
	return strings.Join(parts, "")
}

// list returns the texts of nodes, with commas between them.
func list(nodes []api.Node, textOf func(n api.Node) string) string {
	var texts []string
	for _, n := range nodes {
		texts = append(texts, textOf(n))
	}
	return strings.Join(texts, ", ")
}

// typedName returns the text of a field or a parameter.
func typedName(n api.Node) string {
	return join(n.Name, ": ", typeOf(n.W))
}

func typeOf(width int) string {
	return join("u", strconv.Itoa(width))
}

func decimal(n uint64) string {
	return strconv.FormatUint(n, 10)
}
