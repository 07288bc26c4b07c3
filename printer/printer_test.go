package printer_test

import (
	"math"
	"reflect"
	"slices"
	"strconv"
	"strings"
	"testing"

	"formfinder/api"
	"formfinder/parser"
	"formfinder/printer"
)

// expectText fails the test unless a tree has this text.
func expectText(t *testing.T, n api.Node, want string) {
	t.Helper()
	if text, e := printer.Source(n); e != api.OK || text != want {
		t.Fatalf("%v:\n%q, error %d; want\n%q", n, text, e, want)
	}
}

// P4.1, D1: the example of the chapter.
func TestExample(t *testing.T) {
	n := treeOf(t, "func f(a:u8)u8{return(a+1:u8);}parse{if(len==2:u8){emit x=f(in[0:u8]);accept;}else{reject 3;}}")
	expectText(t, n, `func f(a: u8) u8 {
  return (a + 1:u8);
}
parse {
  if (len == 2:u8) {
    emit x = f(in[0:u8]);
    accept;
  } else {
    reject 3;
  }
}
`)
}

// The parts of the trees of the tables.
var (
	a      = api.Node{Kind: api.NodeVar, Name: "a"}
	b      = api.Node{Kind: api.NodeVar, Name: "b"}
	accept = api.Node{Kind: api.NodeAccept}
)

func kids(l ...api.Node) []api.Node { return l }

func block(statements ...api.Node) api.Node {
	return api.Node{Kind: api.NodeBlock, Kids: statements}
}

// expressionTexts has all expressions, up to the signs, by their texts.
func expressionTexts() map[string]api.Node {
	not := func(n api.Node) api.Node { return api.Node{Kind: api.NodeNot, Kids: kids(n)} }
	sum := func(x, y api.Node) api.Node {
		return api.Node{Kind: api.NodeBin, N: api.SignAdd, Kids: kids(x, y)}
	}
	return map[string]api.Node{
		"5:u8":                     {Kind: api.NodeNumber, N: 5, W: 8},
		"0:u1":                     {Kind: api.NodeNumber, W: 1},
		"300:u8":                   {Kind: api.NodeNumber, N: 300, W: 8},
		"18446744073709551615:u64": {Kind: api.NodeNumber, N: 1<<64 - 1, W: 64},
		"9223372036854775808:u10":  {Kind: api.NodeNumber, N: 1 << 63, W: 10},
		"len":                      {Kind: api.NodeLen},
		"a":                        a,
		"abcdefghijkl":             {Kind: api.NodeVar, Name: "abcdefghijkl"},
		"u65":                      {Kind: api.NodeVar, Name: "u65"},
		"in[a]":                    {Kind: api.NodeIn, Kids: kids(a)},
		"x[a]":                     {Kind: api.NodeCell, Name: "x", Kids: kids(a)},
		"x.y":                      {Kind: api.NodePart, Name: "x", Part: "y"},
		"f()":                      {Kind: api.NodeCall, Name: "f"},
		"f(a)":                     {Kind: api.NodeCall, Name: "f", Kids: kids(a)},
		"f(a, b, a)":               {Kind: api.NodeCall, Name: "f", Kids: kids(a, b, a)},
		"f(f(), ~a)":               {Kind: api.NodeCall, Name: "f", Kids: kids(api.Node{Kind: api.NodeCall, Name: "f"}, not(a))},
		"(a + b)":                  sum(a, b),
		"((a + b) + (b + a))":      sum(sum(a, b), sum(b, a)),
		"~a":                       not(a),
		"~~a":                      not(not(a)),
		"~(a + ~b)":                not(sum(a, not(b))),
		"u16(a)":                   {Kind: api.NodeCast, W: 16, Kids: kids(a)},
		"u1(u64(a))":               {Kind: api.NodeCast, W: 1, Kids: kids(api.Node{Kind: api.NodeCast, W: 64, Kids: kids(a)})},
		"sext u9(a)":               {Kind: api.NodeSext, W: 9, Kids: kids(a)},
		"sext u9(sext u8(a))":      {Kind: api.NodeSext, W: 9, Kids: kids(api.Node{Kind: api.NodeSext, W: 8, Kids: kids(a)})},
		"in[x[(in[a] + b)]]":       {Kind: api.NodeIn, Kids: kids(api.Node{Kind: api.NodeCell, Name: "x", Kids: kids(sum(api.Node{Kind: api.NodeIn, Kids: kids(a)}, b))})},
	}
}

// P4.1, D1: the text of each expression, in each statement that has one.
func TestExpressions(t *testing.T) {
	for text, x := range expressionTexts() {
		for line, n := range map[string]api.Node{
			"let v = " + text + ";":              {Kind: api.NodeLet, Name: "v", Kids: kids(x)},
			"v = " + text + ";":                  {Kind: api.NodeSet, Name: "v", Kids: kids(x)},
			"v[" + text + "] = a;":               {Kind: api.NodePut, Name: "v", Kids: kids(x, a)},
			"v[a] = " + text + ";":               {Kind: api.NodePut, Name: "v", Kids: kids(a, x)},
			"v.w = " + text + ";":                {Kind: api.NodePutPart, Name: "v", Part: "w", Kids: kids(x)},
			"new v: u7[" + text + "];":           {Kind: api.NodeNew, Name: "v", W: 7, Kids: kids(x)},
			"emit v = " + text + ";":             {Kind: api.NodeEmit, Name: "v", Kids: kids(x)},
			"return " + text + ";":               {Kind: api.NodeReturn, Kids: kids(x)},
			"if " + text + " {\n  }":             {Kind: api.NodeIf, Kids: kids(x, block())},
			"if " + text + " {\n  } else {\n  }": {Kind: api.NodeIf, Kids: kids(x, block(), block())},
			"while " + text + " {\n  }":          {Kind: api.NodeWhile, Kids: kids(x, block())},
		} {
			expectText(t, inParse(n), "parse {\n  "+line+"\n}\n")
		}
	}
}

// P4.1, D1: the signs, from 1 to 17 in the order of the grammar.
func TestSigns(t *testing.T) {
	if len(signs) != 17 {
		t.Fatal(len(signs))
	}
	for i, sign := range signs {
		n := api.Node{Kind: api.NodeBin, N: uint64(i + 1), Kids: kids(a, b)}
		expectText(t, inParse(api.Node{Kind: api.NodeReturn, Kids: kids(n)}), "parse {\n  return (a "+sign+" b);\n}\n")
	}
}

// P4.1, D1: the types of all widths, wherever one stands.
func TestTypes(t *testing.T) {
	for w := 1; w <= 64; w++ {
		u := "u" + strconv.Itoa(w)
		n := inParse(
			api.Node{Kind: api.NodeNew, Name: "v", W: w, Kids: kids(api.Node{Kind: api.NodeNumber, N: 1, W: w})},
			api.Node{Kind: api.NodeReturn, Kids: kids(api.Node{Kind: api.NodeCast, W: w, Kids: kids(api.Node{Kind: api.NodeSext, W: w, Kids: kids(a)})})})
		n.Kids = append(kids(
			api.Node{Kind: api.NodeStruct, Name: "s", Kids: kids(api.Node{Kind: api.NodeField, Name: "a", W: w})},
			api.Node{Kind: api.NodeFunc, Name: "f", W: w, Kids: kids(api.Node{Kind: api.NodeParam, Name: "a", W: w}, block())}), n.Kids...)
		expectText(t, n, "struct s { a: "+u+" }\nfunc f(a: "+u+") "+u+" {\n}\nparse {\n  new v: "+u+"[1:"+u+"];\n  return "+u+"(sext "+u+"(a));\n}\n")
	}
}

// statementTexts has statements by their lines, which are separated by line feeds.
func statementTexts() map[string]api.Node {
	reject := func(n uint64) api.Node { return api.Node{Kind: api.NodeReject, N: n} }
	inner := api.Node{Kind: api.NodeIf, Kids: kids(b, block(accept), block(reject(5)))}
	return map[string]api.Node{
		"make v: s;":                        {Kind: api.NodeMake, Name: "v", Part: "s"},
		"free v;":                           {Kind: api.NodeFree, Name: "v"},
		"same v = w;":                       {Kind: api.NodeSame, Name: "v", Part: "w"},
		"accept;":                           accept,
		"reject 5;":                         reject(5),
		"reject 0;":                         reject(0),
		"reject 18446744073709551615;":      reject(1<<64 - 1),
		"if a {\n}":                         {Kind: api.NodeIf, Kids: kids(a, block())},
		"if a {\n  accept;\n  reject 5;\n}": {Kind: api.NodeIf, Kids: kids(a, block(accept, reject(5)))},
		"if a {\n} else {\n  accept;\n}":    {Kind: api.NodeIf, Kids: kids(a, block(), block(accept))},
		"if a {\n  accept;\n} else {\n}":    {Kind: api.NodeIf, Kids: kids(a, block(accept), block())},
		"while a {\n}":                      {Kind: api.NodeWhile, Kids: kids(a, block())},
		"while a {\n  if b {\n    accept;\n  } else {\n    reject 5;\n  }\n  accept;\n}":               {Kind: api.NodeWhile, Kids: kids(a, block(inner, accept))},
		"if a {\n} else {\n  if b {\n    accept;\n  } else {\n    reject 5;\n  }\n}":                   {Kind: api.NodeIf, Kids: kids(a, block(), block(inner))},
		"if a {\n  if b {\n    accept;\n  } else {\n    reject 5;\n  }\n} else {\n  while a {\n  }\n}": {Kind: api.NodeIf, Kids: kids(a, block(inner), block(api.Node{Kind: api.NodeWhile, Kids: kids(a, block())}))},
	}
}

// indented are lines behind two more blanks for each level.
func indented(lines string, levels int) string {
	blanks := strings.Repeat("  ", levels)
	return blanks + strings.ReplaceAll(lines, "\n", "\n"+blanks) + "\n"
}

// P4.1, D1: the lines of statements, within blocks of all sorts.
func TestStatements(t *testing.T) {
	for lines, n := range statementTexts() {
		expectText(t, inParse(n), "parse {\n"+indented(lines, 1)+"}\n")
		expectText(t, inParse(n, accept, n), "parse {\n"+indented(lines, 1)+"  accept;\n"+indented(lines, 1)+"}\n")
		f := api.Node{Kind: api.NodeFunc, Name: "f", W: 8, Kids: kids(block(accept, n))}
		expectText(t, api.Node{Kind: api.NodeProgram, Kids: kids(f, block(n))}, "func f() u8 {\n  accept;\n"+indented(lines, 1)+"}\nparse {\n"+indented(lines, 1)+"}\n")
		expectText(t, inParse(api.Node{Kind: api.NodeIf, Kids: kids(a, block(n), block(n, n))}), "parse {\n  if a {\n"+indented(lines, 2)+"  } else {\n"+indented(lines+"\n"+lines, 2)+"  }\n}\n")
		deep, text := n, indented(lines, 7)
		for level := 6; level > 0; level-- {
			deep = api.Node{Kind: api.NodeWhile, Kids: kids(a, block(deep))}
			text = indented("while a {", level) + text + indented("}", level)
		}
		expectText(t, inParse(deep), "parse {\n"+text+"}\n")
	}
}

// P4.1, D1: the lines of items, and of parse.
func TestItems(t *testing.T) {
	for _, text := range []string{
		"parse {\n}\n",
		"struct s { a: u8, b: u16 }\nparse {\n}\n",
		"struct s { a: u1 }\nparse {\n}\n",
		"func f(a: u8, b: u16) u8 {\n}\nparse {\n}\n",
		"func f(a: u64) u1 {\n  return a;\n}\nparse {\n}\n",
		"func f() u8 {\n}\nparse {\n}\n",
		"func f() u8 {\n}\nstruct s { a: u8 }\nfunc f() u8 {\n}\nstruct s { s: u8, s: u8, f: u9 }\nstruct parser { a: u3 }\nparse {\n  accept;\n}\n",
		full,
	} {
		expectText(t, treeOf(t, text), text)
	}
	field := api.Node{Kind: api.NodeField, Name: "b", W: 16}
	param := api.Node{Kind: api.NodeParam, Name: "a", W: 8}
	expectText(t, api.Node{Kind: api.NodeProgram, Kids: kids(
		api.Node{Kind: api.NodeStruct, Name: "s", Kids: kids(field, field)},
		api.Node{Kind: api.NodeFunc, Name: "f", W: 9, Kids: kids(param, param, block(accept))},
		block())}, "struct s { b: u16, b: u16 }\nfunc f(a: u8, a: u8) u9 {\n  accept;\n}\nparse {\n}\n")
}

// P4.1, D1: random texts.
func TestSamples(t *testing.T) {
	for _, text := range samples(1, 4000) {
		expectText(t, treeOf(t, text), text)
	}
}

// P4.1, D1: offsets do not matter, whatever they are.
func TestOffsets(t *testing.T) {
	for _, n := range altered(treeOf(t, full), func(n api.Node) []api.Node {
		var l []api.Node
		for _, at := range []int{math.MinInt, -1, 0, 3999, math.MaxInt} {
			n.At = at
			l = append(l, n)
		}
		return l
	}) {
		expectText(t, n, full)
	}
}

// P4.1, D1: ErrLimit, if the text has more than 4000 bytes.
func TestLongTexts(t *testing.T) {
	found := map[int]int{}
	expectLength := func(n api.Node, length int) {
		t.Helper()
		found[length]++
		if length > 4000 {
			expectError(t, n, api.ErrLimit)
			return
		}
		if text := textOf(t, n); len(text) != length {
			t.Fatalf("%d bytes; want %d: %s", len(text), length, text)
		}
	}
	for many := 390; many < 410; many++ {
		for length := 1; length <= 12; length++ {
			name := strings.Repeat("a", length)
			free := api.Node{Kind: api.NodeFree, Name: name}
			l := append(slices.Repeat(kids(accept), many), free)
			expectLength(inParse(l...), 10*many+9+length+10)
			n := inParse(slices.Repeat(kids(accept), many)...)
			item := api.Node{Kind: api.NodeStruct, Name: name, Kids: kids(api.Node{Kind: api.NodeField, Name: "a", W: 8})}
			n.Kids = append(kids(item), n.Kids...)
			expectLength(n, 10*many+18+length+10)
		}
	}
	for many := 1300; many < 1340; many++ {
		call := api.Node{Kind: api.NodeCall, Name: "f", Kids: slices.Repeat(kids(a), many)}
		expectLength(inParse(api.Node{Kind: api.NodeReturn, Kids: kids(call)}), 8+len("  return f();\n")+3*many-2+2)
	}
	for many := 250; many < 270; many++ {
		n := inParse(accept)
		item := api.Node{Kind: api.NodeFunc, Name: "f", W: 8, Kids: kids(block())}
		n.Kids = append(slices.Repeat(kids(item), many), n.Kids...)
		expectLength(n, len("func f() u8 {\n}\n")*many+20)
	}
	if found[3999] == 0 || found[4000] == 0 || found[4001] == 0 {
		t.Error("no text has the length of the limit")
	}
}

// P4.1, D1: texts that are much too long.
func TestHugeTexts(t *testing.T) {
	many := slices.Repeat(kids(accept), 1000000)
	expectError(t, inParse(many...), api.ErrLimit)
	expectError(t, inParse(api.Node{Kind: api.NodeIf, Kids: kids(a, block(many...), block(many...))}), api.ErrLimit)
	expectError(t, inParse(api.Node{Kind: api.NodeReturn, Kids: kids(api.Node{Kind: api.NodeCall, Name: "f", Kids: slices.Repeat(kids(b), 1000000)})}), api.ErrLimit)
	item := api.Node{Kind: api.NodeStruct, Name: "s", Kids: slices.Repeat(kids(api.Node{Kind: api.NodeField, Name: "a", W: 8}), 1000)}
	expectError(t, api.Node{Kind: api.NodeProgram, Kids: append(slices.Repeat(kids(item), 1000), block())}, api.ErrLimit)
}

// P4.1, D1: no more than that text has to be short: it may have more tokens than a source.
func TestManyTokens(t *testing.T) {
	call := api.Node{Kind: api.NodeCall, Name: "f", Kids: slices.Repeat(kids(a), 1000)}
	expectText(t, inParse(api.Node{Kind: api.NodeReturn, Kids: kids(call)}), "parse {\n  return f("+strings.Repeat("a, ", 999)+"a);\n}\n")
}

// P4.1, D1: ErrArg for what is no valid tree, even if its text would be too long.
func TestInvalidTrees(t *testing.T) {
	n := treeOf(t, full)
	for kind := -2; kind < 40; kind++ {
		expectError(t, api.Node{Kind: kind}, api.ErrArg)
	}
	for _, kid := range n.Kids {
		expectError(t, kid, api.ErrArg)
	}
	expectError(t, api.Node{Kind: api.NodeProgram, Kids: n.Kids[:2]}, api.ErrArg)
	expectError(t, api.Node{Kind: api.NodeProgram, Name: "p", Kids: n.Kids}, api.ErrArg)
	long := slices.Repeat(kids(accept), 1000)
	for _, wrong := range []api.Node{
		{}, {Kind: api.NodeAccept, W: 1}, {Kind: api.NodeFree}, {Kind: api.NodeFree, Name: "u8"}, {Kind: api.NodeFree, Name: "if"}, {Kind: api.NodeFree, Name: "a b"}, {Kind: api.NodeFree, Name: "abcdefghijklm"},
		{Kind: api.NodeReturn}, {Kind: api.NodeReturn, Kids: kids(a, a)}, {Kind: api.NodeReturn, Kids: kids(accept)}, {Kind: api.NodeNew, Name: "p", Kids: kids(a)}, {Kind: api.NodeNew, Name: "p", W: 65, Kids: kids(a)}, {Kind: api.NodeNew, Name: "p", W: -1, Kids: kids(a)},
		{Kind: api.NodeReturn, Kids: kids(api.Node{Kind: api.NodeBin, Kids: kids(a, b)})}, {Kind: api.NodeReturn, Kids: kids(api.Node{Kind: api.NodeBin, N: 18, Kids: kids(a, b)})}, {Kind: api.NodeReturn, Kids: kids(api.Node{Kind: api.NodeBin, N: 1, Kids: kids(a)})},
		{Kind: api.NodeIf, Kids: kids(a)}, {Kind: api.NodeIf, Kids: kids(a, block(), block(), block())}, {Kind: api.NodeWhile, Kids: kids(a, block(), block())}, {Kind: api.NodeWhile, Kids: kids(block(), a)},
	} {
		expectError(t, inParse(wrong), api.ErrArg)
		expectError(t, inParse(append(slices.Clone(long), wrong)...), api.ErrArg)
		expectError(t, inParse(append(kids(wrong), long...)...), api.ErrArg)
	}
}

// P4.1, D1: as deep as a tree may be, and deeper.
func TestDeepTrees(t *testing.T) {
	x, s := a, accept
	text, line := "a", "accept;\n"
	for depth := 2; depth < 30; depth++ {
		returned := inParse(api.Node{Kind: api.NodeReturn, Kids: kids(x)})
		if depth <= 10 {
			expectText(t, returned, "parse {\n  return "+text+";\n}\n")
		} else {
			expectError(t, returned, api.ErrArg)
		}
		if depth <= 11 {
			lines := ""
			for level := 1; level < depth-1; level++ {
				lines += indented("while a {", level)
			}
			lines += strings.Repeat("  ", depth-1) + line
			for level := depth - 2; level > 0; level-- {
				lines += indented("}", level)
			}
			expectText(t, inParse(s), "parse {\n"+lines+"}\n")
		} else {
			expectError(t, inParse(s), api.ErrArg)
		}
		x, text = api.Node{Kind: api.NodeNot, Kids: kids(x)}, "~"+text
		s = api.Node{Kind: api.NodeWhile, Kids: kids(a, block(s))}
	}
}

// P1: nodes that contain themselves.
func TestEndlessNodes(t *testing.T) {
	for kind := range 33 {
		l := slices.Repeat([]api.Node{{Kind: kind, Name: "a", W: 8}}, 3)
		for i := range l {
			l[i].Kids = l
		}
		expectError(t, l[0], api.ErrArg)
		expectError(t, inParse(l...), api.ErrArg)
	}
	l := kids(accept, api.Node{Kind: api.NodeIf, Kids: kids(a, block())})
	l[1].Kids[1].Kids = l
	expectError(t, inParse(l...), api.ErrArg)
}

// P4.1, Rules: the argument stays as it is, and nothing is kept from call to call.
func TestArguments(t *testing.T) {
	for _, text := range samples(2, 200) {
		n, other := treeOf(t, text), treeOf(t, text)
		first := textOf(t, n)
		expectError(t, api.Node{}, api.ErrArg)
		if textOf(t, n) != first || !reflect.DeepEqual(n, other) {
			t.Fatalf("%q: another text, or another tree, behind the first call", text)
		}
	}
}

// P4.1, D1: exactly the valid trees have a text, or are too long.
func TestAlteredTrees(t *testing.T) {
	count := map[api.Errno]int{}
	for _, n := range altered(treeOf(t, full), others) {
		text, e := printer.Source(n)
		count[e]++
		if parser.Valid(n) != (e == api.OK) || e != api.OK && (e != api.ErrArg || text != "") {
			t.Fatalf("%v: %q, error %d", n, text, e)
		}
	}
	if count[api.OK] < 1000 || count[api.ErrArg] < 1000 {
		t.Error("few trees of a sort:", count)
	}
}
