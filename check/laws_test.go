package check_test

import (
	"fmt"
	"math/rand"
	"slices"
	"strings"
	"testing"

	"formfinder/api"
	"formfinder/parser"
)

// rates are how often things are wrong in the programs of the laws.
var rates = []float64{0, 0.003, 0.01, 0.03, 0.1, 0.3}

// expectSame fails the test unless a program has these diagnostics.
func expectSame(t *testing.T, n api.Node, want []api.Diag) {
	t.Helper()
	if got := diagsOf(t, n); !slices.Equal(got, want) {
		t.Fatalf("%v:\n%v; want\n%v", n, got, want)
	}
}

// variableNames are pointers to all names of variables below a node.
func variableNames(n *api.Node) []*string {
	var l []*string
	for _, node := range nodesOf(n) {
		switch node.Kind {
		case api.NodeParam, api.NodeLet, api.NodeSet, api.NodePut, api.NodePutPart, api.NodeNew, api.NodeMake, api.NodeFree, api.NodeVar, api.NodeCell, api.NodePart:
			l = append(l, &node.Name)
		case api.NodeSame:
			l = append(l, &node.Name, &node.Part)
		}
	}
	return l
}

// renamed is a program whose variables have other names. In each function, and in parse, the name with a number is what a function says.
func renamed(n api.Node, name func(i int) string) api.Node {
	n = clone(n)
	for i := range n.Kids {
		names := map[string]string{}
		for _, p := range variableNames(&n.Kids[i]) {
			if _, found := names[*p]; !found {
				names[*p] = name(len(names))
			}
			*p = names[*p]
		}
	}
	return n
}

// P5.2
func TestNames(t *testing.T) {
	for _, source := range append(sources(10, 1500, rates...), full) {
		n := treeOf(t, source)
		want := diagsOf(t, n)
		for _, name := range []func(i int) string{
			func(i int) string { return fmt.Sprint("v", i) },
			func(i int) string { return fmt.Sprint("v", 1000-i) },
			func(i int) string { return fmt.Sprintf("abcdefghi%03d", i) },
			// the names of items and of fields
			func(i int) string { return strings.Repeat("x", i/8) + someNames[i%8] },
			func(i int) string { return someNames[7-i%8] + strings.Repeat("u", i/8) },
		} {
			expectSame(t, renamed(n, name), want)
		}
	}
	// other names of which two are the same are something else
	if got := diagsOf(t, renamed(treeOf(t, "parse { let a = 1:u8; let b = a; }"), func(int) string { return "a" })); len(got) != 1 {
		t.Error(got)
	}
}

// further are functions without errors, and the name by which they are not called.
var further = []string{
	"func zz() u8 { return 1:u8; }",
	"func zz(a: u8, b: u16, c: u1, zz: u64) u64 { let x = (a + 1:u8); if c { x = 2:u8; } while c { new p: u8[x]; p[x] = x; free p; reject 7; } emit v = b; return zz; }",
	"func zz(a: u8) u8 { " + strings.Repeat("if (a < len) { a = in[a]; } ", 20) + lets(0, 39) + "return a; }",
}

// insert is a program with an item more, with a number.
func insert(n, item api.Node, i int) api.Node {
	n = clone(n)
	n.Kids = slices.Insert(n.Kids, i, item)
	return n
}

// countOf is how many items there are of a kind.
func countOf(n api.Node, kind int) int {
	return count(n.Kids, func(k api.Node) bool { return k.Kind == kind })
}

// P5.3: anywhere before parse
func TestFurtherItems(t *testing.T) {
	atLimit := 0
	for _, source := range sources(11, 1000, rates...) {
		n := treeOf(t, source)
		want := diagsOf(t, n)
		for _, text := range further {
			item := treeOf(t, text+" parse { }").Kids[0]
			item.At = 5000
			if countOf(n, api.NodeFunc) < 12 {
				for i := range n.Kids {
					expectSame(t, insert(n, item, i), want)
				}
				continue
			}
			// Its limit is an error that comes before those of parse.
			atLimit++
			before := len(diagsOf(t, withoutParse(n)))
			limited := slices.Insert(slices.Clone(want), before, api.Diag{Err: api.ErrLimit, At: 5000})
			expectSame(t, insert(n, item, len(n.Kids)-1), limited[:min(len(limited), 20)])
		}
	}
	if atLimit < 10 {
		t.Error("few programs with 12 functions:", atLimit)
	}
}

// withoutParse is a program with nothing in parse.
func withoutParse(n api.Node) api.Node {
	n = clone(n)
	n.Kids[len(n.Kids)-1].Kids = nil
	return n
}

// variablesOf is how many variables are declared in a block.
func variablesOf(n api.Node) int {
	names := map[string]bool{}
	for _, node := range nodesOf(&n) {
		switch node.Kind {
		case api.NodeLet, api.NodeNew, api.NodeMake:
			names[node.Name] = true
		}
	}
	return len(names)
}

// P5.4
func TestFurtherVariables(t *testing.T) {
	atLimit := 0
	for _, source := range sources(12, 1500, rates...) {
		n := treeOf(t, source)
		declarations := []string{"let zz = 1:u8;", "let zz = (len == len);", "new zz: u8[len];", "new zz: u64[4:u3];"}
		if i := slices.IndexFunc(n.Kids, func(k api.Node) bool { return k.Kind == api.NodeStruct }); i >= 0 {
			declarations = append(declarations, "make zz: "+n.Kids[i].Name+";")
		}
		many := variablesOf(n.Kids[len(n.Kids)-1])
		for _, text := range declarations {
			m := clone(n)
			parse := &m.Kids[len(m.Kids)-1]
			parse.Kids = slices.Insert(parse.Kids, 0, treeOf(t, "parse { "+text+" }").Kids[0].Kids[0])
			if many < 40 {
				expectSame(t, m, diagsOf(t, n))
				continue
			}
			atLimit++
			if want := diagsOf(t, n); len(want) < 20 && slices.Equal(diagsOf(t, m), want) {
				t.Fatalf("%s\n%s: there are 40 variables already", source, text)
			}
		}
	}
	if atLimit < 10 {
		t.Error("few programs with 40 variables:", atLimit)
	}
}

// wrongStatements have one error, where there are neither too many variables, nor such names.
var wrongStatements = []string{
	"Nzz = 1:u8;", "Nzz[len] = 1:u8;", "Nzz.a = 1:u8;", "Nfree zz;", "Nsame zz = zz;", "emit x = Nzz;", "emit x = Nzz[len];", "emit x = Nzz.a;", "emit x = Nzz();", "emit x = Nzz(len);",
	"Wif len { }", "Wwhile (len + 1:u8) { }", "Rreject 256;", "Rreject 1000000;", "Ereturn 1:u8;", "if 1:u1 { Ereturn 1:u64; }", "emit x = W(1:u8 + 1:u9);", "emit x = W(1:u8 == 1:u9);", "emit x = R256:u8;", "emit x = ~R2:u1;", "emit x = Wsext u7(len);", "emit x = in[W(len - 1:u9)];",
	"if 1:u1 { } else { while 0:u1 { Rreject 256; } }", "if Nzz { }", "while Nzz() { }",
}

// wrongDeclarations have one error, too, and declare a variable at most.
var wrongDeclarations = []string{
	"let zz = Nzz;", "let zz = W(1:u8 + 1:u9);", "new zz: u8[Nzz];", "Nmake zz: zz;",
	"if 1:u1 { let zz = 1:u8; Tlet zz = 1:u8; }", "if 1:u1 { let zz = 1:u8; Wzz = 1:u9; }", "if 1:u1 { let zz = 1:u8; } else { Nzz = 1:u8; }", "if 1:u1 { let zz = 1:u8; Kfree zz; }", "if 1:u1 { let zz = 1:u8; Kzz[len] = 1:u8; }", "if 1:u1 { new zz: u8[len]; Kzz = len; }", "if 1:u1 { new zz: u8[len]; Kzz.a = len; }", "if 1:u1 { new zz: u8[len]; Wzz[len] = 1:u9; }", "if 1:u1 { new zz: u8[len]; emit x = Kzz; }", "if 1:u1 { let zz = len; Ksame zz = zz; }", "if 1:u1 { let zz = len; Nsame zz = zzz; }",
}

// P5.5
func TestWrongStatements(t *testing.T) {
	checked := 0
	for _, source := range append(sources(13, 500, rates...), full, "parse { }") {
		n := treeOf(t, source)
		want := diagsOf(t, n)
		end := strings.LastIndex(source, "}")
		texts := wrongStatements
		if variablesOf(n.Kids[len(n.Kids)-1]) < 40 {
			texts = append(slices.Clone(texts), wrongDeclarations...)
		}
		for _, text := range texts {
			statement, errors := marked(text)
			if len(errors) != 1 {
				t.Fatal(text)
			}
			longer, tooLong := parser.Parse(source[:end] + statement + " }")
			if len(tooLong) > 0 {
				continue
			}
			checked++
			errors[0].At += end
			all := append(slices.Clone(want), errors...)
			expectSame(t, longer, all[:min(len(all), 20)])
		}
	}
	if checked < 5000 {
		t.Error("few statements:", checked)
	}
}

// At offsets from here on are the nodes of what is inserted into trees.
const insertedAt = 100000

// statementOf is the only statement of a text, with diagnostics that are marked in it.
func statementOf(t *testing.T, text string) (api.Node, []api.Diag) {
	t.Helper()
	text, diags := marked("parse { " + text + " }")
	n := treeOf(t, text).Kids[0].Kids[0]
	for _, node := range nodesOf(&n) {
		node.At += insertedAt
	}
	for i := range diags {
		diags[i].At += insertedAt
	}
	return n, diags
}

// P5.6: a new variable is declared at the end of each block within another one.
func TestScopes(t *testing.T) {
	r := rand.New(rand.NewSource(14))
	checked := 0
	for _, source := range append(sources(15, 800, 0, 0.003, 0.01, 0.03), full) {
		n := numbered(treeOf(t, source))
		want := diagsOf(t, n)
		for i, node := range nodesOf(&n) {
			if node.Kind != api.NodeIf && node.Kind != api.NodeWhile || len(want) > 14 {
				continue
			}
			m := clone(n)
			outer := nodesOf(&m)[i]
			block := &outer.Kids[1+r.Intn(len(outer.Kids)-1)]
			declaration, _ := statementOf(t, "let zz = 1:u8;")
			block.Kids = append(block.Kids, declaration)
			if !slices.Equal(diagsOf(t, m), want) {
				continue // there are too many variables
			}
			checked++
			expectScopes(t, m, i, want)
		}
	}
	if checked < 500 {
		t.Error("few blocks:", checked)
	}
	expectMarked(t, "parse { if 1:u1 { let a = 1:u1; a = 0:u1; } Na = 0:u1; Tlet a = 0:u1; Na = 0:u1; Tnew a: u8[Na]; Nfree a; }")
}

// expectScopes fails the test unless a variable, which is declared in a block of a node with a number, is not known after the node, but cannot be declared again.
func expectScopes(t *testing.T, n api.Node, number int, want []api.Diag) {
	t.Helper()
	for _, text := range []string{"Nzz = 1:u8;", "emit x = Nzz;", "Nzz[Nzz] = Nzz;", "Nfree zz;", "Nsame zz = zz;", "Tlet zz = 2:u8;", "Tlet zz = Nzz;", "Tnew zz: u8[len];", "Tmake zz: zz;", "if 1:u1 { Nzz = 1:u8; Tlet zz = 1:u9; Nzz = 1:u9; }"} {
		statement, errors := statementOf(t, text)
		m := clone(n)
		block, i := blockOf(&m, nodesOf(&m)[number])
		block.Kids = slices.Insert(block.Kids, i+1, statement)
		var old, added []api.Diag
		for _, d := range diagsOf(t, m) {
			if d.At >= insertedAt {
				added = append(added, d)
			} else {
				old = append(old, d)
			}
		}
		if !slices.Equal(added, errors) || !slices.Equal(old, want) {
			t.Fatalf("%v\n%s: %v and %v; want %v and %v", m, text, old, added, want, errors)
		}
	}
}

// blockOf is the block in which a statement is, and its number there.
func blockOf(n *api.Node, statement *api.Node) (*api.Node, int) {
	for _, node := range nodesOf(n) {
		for i := range node.Kids {
			if &node.Kids[i] == statement {
				return node, i
			}
		}
	}
	return nil, 0
}

// P5.7
func TestOrder(t *testing.T) {
	many := 0
	for _, source := range sources(16, 3000, rates...) {
		diags := diagsOf(t, treeOf(t, source))
		for i, d := range diags {
			if d.At < 0 || d.At >= len(source) || i > 0 && d.At <= diags[i-1].At {
				t.Fatalf("%s\n%v", source, diags)
			}
			many++
		}
	}
	if many < 5000 {
		t.Error("few diagnostics:", many)
	}
}

// P5.8
func TestItemsBefore(t *testing.T) {
	split := 0
	for _, source := range append(sources(17, 2000, rates...), full) {
		n := treeOf(t, source)
		all := diagsOf(t, n)
		at := 0
		for i := range n.Kids {
			// The items up to this one.
			m := clone(n)
			m.Kids = m.Kids[:i+1]
			if i < len(n.Kids)-1 {
				m.Kids = append(m.Kids, api.Node{Kind: api.NodeBlock})
			}
			diags := diagsOf(t, m)
			if !slices.Equal(diags, all[:min(len(diags), len(all))]) {
				t.Fatalf("%s\n%v; of the first items: %v", source, all, diags)
			}
			// Those of this item are within it.
			if len(diags) < at {
				t.Fatalf("%s\n%v, but %d without the last item", source, diags, at)
			}
			for _, d := range diags[at:] {
				if d.At < n.Kids[i].At || i < len(n.Kids)-1 && d.At >= n.Kids[i+1].At {
					t.Fatalf("%s\n%v is not in the item %d", source, d, i)
				}
			}
			if at > 0 && len(diags) > at {
				split++
			}
			at = len(diags)
		}
		if at != len(all) {
			t.Fatalf("%s\n%v", source, all)
		}
	}
	if split < 500 {
		t.Error("few programs with diagnostics in several items:", split)
	}
}
