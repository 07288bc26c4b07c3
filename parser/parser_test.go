package parser_test

import (
	"slices"
	"strings"
	"testing"

	"formfinder/api"
	"formfinder/parser"
)

// The parts of trees, with offsets.
func name(at int, text string) api.Node {
	return api.Node{Kind: api.NodeVar, Name: text, At: at}
}

func number(at int, n uint64, w int) api.Node {
	return api.Node{Kind: api.NodeNumber, N: n, W: w, At: at}
}

func block(at int, kids ...api.Node) api.Node {
	return api.Node{Kind: api.NodeBlock, At: at, Kids: kids}
}

// later is a node whose offsets, and those below it, are greater by a number.
func later(n api.Node, by int) api.Node {
	n.At += by
	n.Kids = slices.Clone(n.Kids)
	for i, k := range n.Kids {
		n.Kids[i] = later(k, by)
	}
	return n
}

// P3.1, C1: the examples of the chapter.
func TestExamples(t *testing.T) {
	expectTree(t, "parse { let a = in[0:u8]; if (a == 7:u8) { accept; } reject 1; }", api.Node{Kind: api.NodeProgram, Kids: []api.Node{block(6,
		api.Node{Kind: api.NodeLet, Name: "a", At: 8, Kids: []api.Node{{Kind: api.NodeIn, At: 16, Kids: []api.Node{number(19, 0, 8)}}}},
		api.Node{Kind: api.NodeIf, At: 26, Kids: []api.Node{
			{Kind: api.NodeBin, N: 11, At: 29, Kids: []api.Node{name(30, "a"), number(35, 7, 8)}},
			block(41, api.Node{Kind: api.NodeAccept, At: 43})}},
		api.Node{Kind: api.NodeReject, N: 1, At: 53})}})
	expectDiags(t, "parse { let a = ; accept; }", []api.Diag{{Err: api.ErrSyntax, At: 16}})
	expectDiags(t, "parse { accept", []api.Diag{{Err: api.ErrSyntax, At: 14}})
	expectDiags(t, "struct s { }  parse { }", []api.Diag{{Err: api.ErrSyntax, At: 11}})
}

// P3.1, C1: the tree of each statement.
func TestStatements(t *testing.T) {
	l := func(kids ...api.Node) []api.Node { return kids }
	for text, want := range map[string]api.Node{
		"let x = a;":                        {Kind: api.NodeLet, Name: "x", Kids: l(name(8, "a"))},
		"x = a;":                            {Kind: api.NodeSet, Name: "x", Kids: l(name(4, "a"))},
		"x[a] = b;":                         {Kind: api.NodePut, Name: "x", Kids: l(name(2, "a"), name(7, "b"))},
		"x.y = b;":                          {Kind: api.NodePutPart, Name: "x", Part: "y", Kids: l(name(6, "b"))},
		"new x: u8[a];":                     {Kind: api.NodeNew, Name: "x", W: 8, Kids: l(name(10, "a"))},
		"make x: y;":                        {Kind: api.NodeMake, Name: "x", Part: "y"},
		"free x;":                           {Kind: api.NodeFree, Name: "x"},
		"same x = y;":                       {Kind: api.NodeSame, Name: "x", Part: "y"},
		"if a { }":                          {Kind: api.NodeIf, Kids: l(name(3, "a"), block(5))},
		"if a{free x;}else{accept;}":        {Kind: api.NodeIf, Kids: l(name(3, "a"), block(4, api.Node{Kind: api.NodeFree, Name: "x", At: 5}), block(17, api.Node{Kind: api.NodeAccept, At: 18}))},
		"if a { } else { }":                 {Kind: api.NodeIf, Kids: l(name(3, "a"), block(5), block(14))},
		"if a { if b { } else { } }":        {Kind: api.NodeIf, Kids: l(name(3, "a"), block(5, api.Node{Kind: api.NodeIf, At: 7, Kids: l(name(10, "b"), block(12), block(21))}))},
		"while a { accept; }":               {Kind: api.NodeWhile, Kids: l(name(6, "a"), block(8, api.Node{Kind: api.NodeAccept, At: 10}))},
		"emit x = a;":                       {Kind: api.NodeEmit, Name: "x", Kids: l(name(9, "a"))},
		"accept;":                           {Kind: api.NodeAccept},
		"reject 0;":                         {Kind: api.NodeReject},
		"reject 18446744073709551615;":      {Kind: api.NodeReject, N: 1<<64 - 1},
		"return a;":                         {Kind: api.NodeReturn, Kids: l(name(7, "a"))},
		"abcdefghijkl\n=#c\na # d\n; # e\n": {Kind: api.NodeSet, Name: "abcdefghijkl", Kids: l(name(17, "a"))},
		"u65=u0;":                           {Kind: api.NodeSet, Name: "u65", Kids: l(name(4, "u0"))},
		"name = number;":                    {Kind: api.NodeSet, Name: "name", Kids: l(name(7, "number"))},
		"type = end;":                       {Kind: api.NodeSet, Name: "type", Kids: l(name(7, "end"))},
	} {
		want.Kids = slices.Clone(want.Kids)
		tree := api.Node{Kind: api.NodeProgram, Kids: []api.Node{block(6, later(want, 8))}}
		expectTree(t, "parse { "+text+" }", tree)
		in := api.Node{Kind: api.NodeProgram, Kids: []api.Node{{Kind: api.NodeFunc, Name: "f", W: 8, Kids: []api.Node{block(11, later(want, 13))}}, block(21 + len(text))}}
		expectTree(t, "func f() u8{ "+text+" }parse {}", in)
		twice := api.Node{Kind: api.NodeProgram, Kids: []api.Node{block(6, later(want, 8), later(want, 8+len(text)))}}
		expectTree(t, "parse { "+text+text+"}", twice)
	}
}

// P3.1, C1: the tree of each expression.
func TestExpressions(t *testing.T) {
	l := func(kids ...api.Node) []api.Node { return kids }
	for text, want := range map[string]api.Node{
		"0:u1":                         number(0, 0, 1),
		"300:u8":                       number(0, 300, 8),
		"18446744073709551615:u64":     number(0, 1<<64-1, 64),
		"a":                            name(0, "a"),
		"a[b]":                         {Kind: api.NodeCell, Name: "a", Kids: l(name(2, "b"))},
		"a.b":                          {Kind: api.NodePart, Name: "a", Part: "b"},
		"a()":                          {Kind: api.NodeCall, Name: "a"},
		"a(b)":                         {Kind: api.NodeCall, Name: "a", Kids: l(name(2, "b"))},
		"a(b, 1:u8,c, len, d)":         {Kind: api.NodeCall, Name: "a", Kids: l(name(2, "b"), number(5, 1, 8), name(10, "c"), api.Node{Kind: api.NodeLen, At: 13}, name(18, "d"))},
		"in[a]":                        {Kind: api.NodeIn, Kids: l(name(3, "a"))},
		"len":                          {Kind: api.NodeLen},
		"(a + b)":                      {Kind: api.NodeBin, N: api.SignAdd, Kids: l(name(1, "a"), name(5, "b"))},
		"(b slt a)":                    {Kind: api.NodeBin, N: api.SignSlt, Kids: l(name(1, "b"), name(7, "a"))},
		"((a - b) << (c * d))":         {Kind: api.NodeBin, N: api.SignShl, Kids: l(api.Node{Kind: api.NodeBin, N: api.SignSub, At: 1, Kids: l(name(2, "a"), name(6, "b"))}, api.Node{Kind: api.NodeBin, N: api.SignMul, At: 12, Kids: l(name(13, "c"), name(17, "d"))})},
		"~a":                           {Kind: api.NodeNot, Kids: l(name(1, "a"))},
		"~ ~a.b":                       {Kind: api.NodeNot, Kids: l(api.Node{Kind: api.NodeNot, At: 2, Kids: l(api.Node{Kind: api.NodePart, Name: "a", Part: "b", At: 3})})},
		"u16(a)":                       {Kind: api.NodeCast, W: 16, Kids: l(name(4, "a"))},
		"u64 ( a )":                    {Kind: api.NodeCast, W: 64, Kids: l(name(6, "a"))},
		"u65(a)":                       {Kind: api.NodeCall, Name: "u65", Kids: l(name(4, "a"))},
		"sext u1(a)":                   {Kind: api.NodeSext, W: 1, Kids: l(name(8, "a"))},
		"sext u32(u8(in[p[len]]))":     {Kind: api.NodeSext, W: 32, Kids: l(api.Node{Kind: api.NodeCast, W: 8, At: 9, Kids: l(api.Node{Kind: api.NodeIn, At: 12, Kids: l(api.Node{Kind: api.NodeCell, Name: "p", At: 15, Kids: l(api.Node{Kind: api.NodeLen, At: 17})})})})},
		"# gap\nf ( # gap\n a ,\tb\n)": {Kind: api.NodeCall, Name: "f", At: 6, Kids: l(name(17, "a"), name(21, "b"))},
	} {
		tree := func(kind, before int, name string) api.Node {
			return api.Node{Kind: api.NodeProgram, Kids: []api.Node{block(6, api.Node{Kind: kind, Name: name, At: 8, Kids: []api.Node{later(want, before)}})}}
		}
		expectTree(t, "parse { return "+text+"; }", tree(api.NodeReturn, 15, ""))
		expectTree(t, "parse { let x = "+text+"; }", tree(api.NodeLet, 16, "x"))
		expectTree(t, "parse { if "+text+" { } }", api.Node{Kind: api.NodeProgram, Kids: []api.Node{block(6, api.Node{Kind: api.NodeIf, At: 8, Kids: []api.Node{later(want, 11), block(12 + len(text))}})}})
		expectTree(t, "parse { if(~"+text+" == len){} }", api.Node{Kind: api.NodeProgram, Kids: []api.Node{block(6, api.Node{Kind: api.NodeIf, At: 8, Kids: []api.Node{
			{Kind: api.NodeBin, N: api.SignEq, At: 10, Kids: []api.Node{{Kind: api.NodeNot, At: 11, Kids: []api.Node{later(want, 12)}}, {Kind: api.NodeLen, At: 16 + len(text)}}},
			block(20 + len(text))}})}})
	}
}

// P3.1, C1: the signs have the numbers from 1 to 17, in the order of the grammar.
func TestSigns(t *testing.T) {
	if len(signs) != 17 {
		t.Fatal(len(signs))
	}
	for i, sign := range signs {
		n := treeOf(t, "parse { return (a "+sign+" b); }")
		want := api.Node{Kind: api.NodeBin, N: uint64(i + 1), At: 15, Kids: []api.Node{name(16, "a"), name(19+len(sign), "b")}}
		if got := n.Kids[0].Kids[0].Kids[0]; !equal(got, want) {
			t.Errorf("%q: %v; want %v", sign, got, want)
		}
	}
	for _, sign := range []string{"=", "~", "!", ".", ":", "len", "a", "and"} {
		if _, diags := parser.Parse("parse { return (a " + sign + " b); }"); len(diags) == 0 {
			t.Errorf("%q is a sign", sign)
		}
	}
}

// P3.1, C1: the trees of items, of parse and of the program.
func TestItems(t *testing.T) {
	program := func(kids ...api.Node) api.Node { return api.Node{Kind: api.NodeProgram, Kids: kids} }
	field := func(at int, name string, w int) api.Node {
		return api.Node{Kind: api.NodeField, Name: name, W: w, At: at}
	}
	param := func(at int, name string, w int) api.Node {
		return api.Node{Kind: api.NodeParam, Name: name, W: w, At: at}
	}
	expectTree(t, "parse{}", program(block(5)))
	expectTree(t, " # a\n\tparse # b\n { } # c", program(block(17)))
	expectTree(t, "struct s{a:u8}parse{}", program(
		api.Node{Kind: api.NodeStruct, Name: "s", Kids: []api.Node{field(9, "a", 8)}}, block(19)))
	expectTree(t, "\nstruct s { a: u1, b: u64, a: u7 } parse { }", program(
		api.Node{Kind: api.NodeStruct, Name: "s", At: 1, Kids: []api.Node{field(12, "a", 1), field(19, "b", 64), field(27, "a", 7)}}, block(41)))
	expectTree(t, "func f() u8 { } parse { }", program(
		api.Node{Kind: api.NodeFunc, Name: "f", W: 8, Kids: []api.Node{block(12)}}, block(22)))
	expectTree(t, "func f(a:u8) u64 { accept; } parse { }", program(
		api.Node{Kind: api.NodeFunc, Name: "f", W: 64, Kids: []api.Node{param(7, "a", 8), block(17, api.Node{Kind: api.NodeAccept, At: 19})}}, block(35)))
	expectTree(t, "func f(a:u8 , b : u9,c:u1) u1{} struct f { f: u2 } func f() u1 { } parse { accept; }", program(
		api.Node{Kind: api.NodeFunc, Name: "f", W: 1, Kids: []api.Node{param(7, "a", 8), param(14, "b", 9), param(21, "c", 1), block(29)}},
		api.Node{Kind: api.NodeStruct, Name: "f", At: 32, Kids: []api.Node{field(43, "f", 2)}},
		api.Node{Kind: api.NodeFunc, Name: "f", W: 1, At: 51, Kids: []api.Node{block(63)}},
		block(73, api.Node{Kind: api.NodeAccept, At: 75})))
}

// P3.1, C1: more items, fields, parameters and arguments than other layers allow are read.
func TestManyParts(t *testing.T) {
	many := strings.Repeat(", a: u8", 50)
	n := treeOf(t, "struct s { b: u8"+many+" } func f(b: u8"+many+") u8 { } "+strings.Repeat("func f() u8 { } struct s { a: u1 } ", 30)+" parse { x = f(a"+strings.Repeat(", a", 50)+"); }")
	if len(n.Kids) != 63 || len(n.Kids[0].Kids) != 51 || len(n.Kids[1].Kids) != 52 || len(n.Kids[62].Kids[0].Kids[0].Kids) != 51 {
		t.Error("not all parts are there")
	}
}

// P3.1, C1: with an error of the lexer, it is the only one.
func TestLexerErrors(t *testing.T) {
	for _, x := range []struct {
		source string
		want   api.Diag
	}{
		{"!", api.Diag{Err: api.ErrSyntax, At: 0}},
		{"parse { let a = ; let b = ; } } !", api.Diag{Err: api.ErrSyntax, At: 32}},
		{"let } 007", api.Diag{Err: api.ErrSyntax, At: 6}},
		{"} parse { abcdefghijklm = 1:u8; ! }", api.Diag{Err: api.ErrRange, At: 10}},
		{"parse { return 18446744073709551616:u64; }", api.Diag{Err: api.ErrRange, At: 15}},
		{"a" + strings.Repeat(" ", 4000), api.Diag{Err: api.ErrLimit, At: 0}},
		{"parse { }" + strings.Repeat(" ", 3992), api.Diag{Err: api.ErrLimit, At: 0}},
		{"x" + strings.Repeat(";", 1500), api.Diag{Err: api.ErrLimit, At: 1500}},
		{"parse { accept; } \xff", api.Diag{Err: api.ErrSyntax, At: 18}},
	} {
		expectDiags(t, x.source, []api.Diag{x.want})
	}
	expectTree(t, "parse { }"+strings.Repeat(" ", 3991), api.Node{Kind: api.NodeProgram, Kids: []api.Node{block(6)}})
	n := treeOf(t, "parse {"+strings.Repeat("a=b;", 374)+"} # 1499 tokens")
	if len(n.Kids[0].Kids) != 374 {
		t.Error(len(n.Kids[0].Kids))
	}
}

// P1: no source makes Parse panic, and with diagnostics there is no tree.
func TestAnySource(t *testing.T) {
	for _, s := range []string{"\x00", "{", "}", "}}}}", "{{{{", "((((", "parse", "parse parse", "func func func", strings.Repeat("{", 1500), strings.Repeat("}", 1500), strings.Repeat("(", 1500),
		"parse" + strings.Repeat("{", 1499), "parse {" + strings.Repeat("if a {", 499), "parse {" + strings.Repeat("~", 1490), strings.Repeat("parse{", 750), strings.Repeat("func f() u8 { if a { ", 150), strings.Repeat("a", 1<<20), strings.Repeat("parse{}", 300)} {
		n, diags := parser.Parse(s)
		if len(diags) == 0 || len(diags) > 20 || !equal(n, api.Node{}) {
			t.Errorf("%q: %v, %v", s[:min(len(s), 50)], n, diags)
		}
		if !slices.Equal(diags, model(s)) {
			t.Errorf("%q: %v; want %v", s[:min(len(s), 50)], diags, model(s))
		}
	}
}
