package parser_test

import (
	"math/rand"
	"slices"
	"strings"
	"testing"

	"formfinder/api"
	"formfinder/parser"
)

// first is the word that a node begins with.
func first(n api.Node) string {
	words, _ := written(n)
	if n.Kind == api.NodeProgram {
		return ""
	}
	return words[0]
}

// expectOrder fails the test unless the offsets of items and of statements increase, and at all offsets stands what begins there.
func expectOrder(t *testing.T, source string, n api.Node) {
	t.Helper()
	if !strings.HasPrefix(source[n.At:], first(n)) {
		t.Fatalf("%q: at %d there is no %q", source, n.At, first(n))
	}
	for i, k := range n.Kids {
		if i > 0 && k.At <= n.Kids[i-1].At || n.Kind != api.NodeProgram && k.At < n.At {
			t.Fatalf("%q: %d is not behind what is before it", source, k.At)
		}
		expectOrder(t, source, k)
	}
}

// P3.2, P3.1: the trees of random texts, with any gaps.
func TestTrees(t *testing.T) {
	r := rand.New(rand.NewSource(20))
	for _, n := range append(samples(2, 1500), full(t)) {
		words, tree := written(n)
		for _, gap := range []func(int) string{func(int) string { return " " }, without(words), func(int) string { return randomGap(r) }} {
			source, offsets := placed(words, gap)
			if len(source) > 4000 {
				continue
			}
			expectTree(t, source, moved(tree, offsets))
			got := treeOf(t, source)
			if !parser.Valid(got) {
				t.Fatalf("%q: the tree is not valid", source)
			}
			expectOrder(t, source, got)
		}
	}
}

// P3.3
func TestGaps(t *testing.T) {
	r := rand.New(rand.NewSource(21))
	compared := 0
	for _, n := range append(samples(3, 1500), full(t)) {
		words, _ := written(n)
		if r.Intn(3) > 0 {
			words = damaged(r, words)
		}
		plain, _ := placed(words, func(int) string { return "\n" })
		tree, diags := parser.Parse(plain)
		for range 3 {
			source, _ := placed(words, func(int) string { return randomGap(r) })
			if len(source) > 4000 || len(plain) > 4000 {
				continue
			}
			compared++
			otherTree, otherDiags := parser.Parse(source)
			if !equal(parser.Strip(tree), parser.Strip(otherTree)) {
				t.Fatalf("%q: another tree than for %q", source, plain)
			}
			if !slices.EqualFunc(diags, otherDiags, func(a, b api.Diag) bool { return a.Err == b.Err }) {
				t.Fatalf("%q: %v; for %q: %v", source, otherDiags, plain, diags)
			}
		}
	}
	if compared < 1000 {
		t.Error("few sources:", compared)
	}
}

// P3.4
func TestTexts(t *testing.T) {
	for _, n := range append(samples(4, 4000), parser.Strip(full(t))) {
		if !parser.Valid(n) {
			t.Fatalf("%v is not valid", n)
		}
		source := textOfTree(n)
		if got := parser.Strip(treeOf(t, source)); !equal(got, n) {
			t.Fatalf("%q: %v; want %v", source, got, n)
		}
	}
}

// P3.5
func TestBeginnings(t *testing.T) {
	r := rand.New(rand.NewSource(22))
	for _, n := range append(samples(5, 200), full(t)) {
		words, _ := written(n)
		source, offsets := placed(words, func(int) string { return randomGap(r) })
		if len(source) > 4000 {
			continue
		}
		treeOf(t, source)
		for i := range len(words) - 1 {
			end := offsets[i] + len(words[i])
			expectDiags(t, source[:end], []api.Diag{{Err: api.ErrSyntax, At: end}})
			expectDiags(t, source[:offsets[i+1]], []api.Diag{{Err: api.ErrSyntax, At: offsets[i+1]}})
		}
	}
	expectDiags(t, "", []api.Diag{{Err: api.ErrSyntax, At: 0}})
	expectDiags(t, " # nothing\n ", []api.Diag{{Err: api.ErrSyntax, At: 12}})
}

// places are the numbers of the words where statements can be inserted, and where items can be.
func places(n api.Node, words []string) (statements, items []int) {
	for _, k := range n.Kids {
		s, _ := places(k, words)
		statements = append(statements, s...)
		switch {
		case n.Kind == api.NodeBlock:
			statements = append(statements, k.At)
		case n.Kind == api.NodeProgram && k.Kind == api.NodeBlock:
			items = append(items, k.At-1)
		case n.Kind == api.NodeProgram:
			items = append(items, k.At)
		}
	}
	if n.Kind == api.NodeBlock {
		open := 0
		for i := n.At; ; i++ {
			if words[i] == "{" {
				open++
			} else if words[i] == "}" {
				open--
			}
			if open == 0 {
				return append(statements, i), items
			}
		}
	}
	return statements, items
}

// expectInserted fails the test unless texts, inserted before some of the words, add the diagnostics that are marked in them.
func expectInserted(t *testing.T, words []string, at []int, texts []string) {
	t.Helper()
	var b strings.Builder
	for i, word := range words {
		for j, where := range at {
			if where == i {
				b.WriteString(texts[j] + " ")
			}
		}
		b.WriteString(word + " ")
	}
	source, want := marked(b.String())
	if len(source) <= 4000 {
		expectDiags(t, source, want[:min(len(want), 20)])
	}
}

var wrongStatements = []string{
	"let @= a;", "let x @a;", "let x = @;", "let @if = a;", "let x = a @b;", "x @a;", "x @;", "x = @;", "x[@] = a;", "x[a @= b;", "x.@1 = a;", "x.y @;", "x @(a);",
	"new @: u8[a];", "new x: @y[a];", "new x: u8 @;", "make x: @u8;", "free @;", "same x @: y;", "same x = y @.z;",
	"if @{ accept; }", "if @{ accept; } else { accept; }", "if a @accept;", "if a { } else @accept;", "if a { } else @if b { } else { }", "if a { let @; }", "if a { } else { free x; accept @}", "if @) { if a { } else { } }",
	"while @{ accept; }", "while a @;", "while a { reject @; }", "while a { } @;", "emit @= a;", "emit x = (a @);", "accept @1;", "reject @;", "reject @a;", "return @;", "return f(a @;", "return (a + b @+ c);",
	"@;", "@{ }", "@{ let a = b; { free x; } }", "@in[a] = b;", "@u8 = a;", "@7;", "@) ;", "@sext u8(a);", "x = a @{ b; }", "x = @{ } else { ; }",
}

// P3.6
func TestWrongStatements(t *testing.T) {
	r := rand.New(rand.NewSource(23))
	for _, n := range append(samples(6, 300), full(t)) {
		words, tree := written(n)
		at, _ := places(tree, words)
		for _, where := range at {
			for range 3 {
				expectInserted(t, words, []int{where}, []string{wrongStatements[r.Intn(len(wrongStatements))]})
			}
		}
	}
	words, tree := written(full(t))
	at, _ := places(tree, words)
	for _, where := range at {
		for _, text := range wrongStatements {
			expectInserted(t, words, []int{where}, []string{text})
		}
	}
	for many := range at {
		var texts []string
		for range many {
			texts = append(texts, wrongStatements[r.Intn(len(wrongStatements))])
		}
		r.Shuffle(len(at), func(i, j int) { at[i], at[j] = at[j], at[i] })
		expectInserted(t, words, at[:many], texts)
	}
}

var wrongItems = []string{
	"struct @{ a: u8 }", "struct s { @}", "struct s { a @}", "struct s { a: u8, @}", "struct s { a: u8 @; b: u8 }", "struct s { a: @b }", "struct @if { a: u8 }", "struct s { a: u8 } @;", "struct s @= { a: u8 }",
	"func @() u8 { return a; }", "func f @u8 { }", "func f(@,) u8 { }", "func f(a @) u8 { return a; }", "func f(a: u8, @) u8 { }", "func f() @{ return a; }", "func f() u8 @accept;", "func f() u8 { } @}", "func f() u8 { } @;",
	"func f() u8 { let @; }", "func f() u8 { accept @}", "func f() u8 { return (a @) + b; }", "func f() u8 { @", "func f() u8 { if a { x = (a +@", "func f() u8 { @{ { ;",
	"@x", "@;", "@}", "@{ }", "@accept;", "@let a = b;", "@if a { } else { }", "@7 u8 ( [ {", "parse @accept;", "parse @;",
}

// P3.7
func TestWrongItems(t *testing.T) {
	r := rand.New(rand.NewSource(24))
	for _, n := range append(samples(7, 150), full(t)) {
		words, tree := written(n)
		_, at := places(tree, words)
		for _, where := range at {
			for _, text := range wrongItems {
				expectInserted(t, words, []int{where}, []string{text})
			}
		}
		var texts []string
		for range at {
			texts = append(texts, wrongItems[r.Intn(len(wrongItems))])
		}
		expectInserted(t, words, at, texts)
	}
}

// The parts that a block or an expression may stand in: each one is a block or an expression, too.
var (
	inExpressions = [][2]string{{"(", " + a)"}, {"(a + ", ")"}, {"~", ""}, {"u8(", ")"}, {"sext u8(", ")"}, {"in[", "]"}, {"a[", "]"}, {"f(", ")"}, {"f(a, ", ", a)"}}
	inStatements  = [][2]string{{"x = ", ";"}, {"let x = ", ";"}, {"x[a] = ", ";"}, {"x[", "] = a;"}, {"x.y = ", ";"}, {"new x: u8[", "];"}, {"if ", " { }"}, {"if ", " { accept; } else { ; }"}, {"while ", " { ; }"}, {"emit x = ", ";"}, {"return ", ";"}}
	inBlocks      = [][2]string{{"if a { ", " }"}, {"if a { } else { ", " }"}, {"while a { ", " }"}, {"free x; if a { accept; } else { let y = a; ", " free x; } free x;"}}
	inPrograms    = [][2]string{{"parse { ", " }"}, {"func f() u8 { ", " } parse { }"}}
)

// nested is a text within others, from the inner ones to the outer ones, and the offset of the text, and of each of the others.
func nested(text string, parts ...[2]string) (string, []int) {
	offsets := []int{0}
	for _, p := range parts {
		text = p[0] + text + p[1]
		for i := range offsets {
			offsets[i] += len(p[0])
		}
		offsets = append(offsets, 0)
	}
	return text, offsets
}

// firstInside is the offset of the first block or expression in a part that begins with a text.
func firstInside(begin string) int {
	if i := strings.Index(begin, "a"); i > 0 && begin != "a[" {
		return i
	}
	return len(begin)
}

// P3.8: expressions within blocks within each other, as many as the depth allows, and more.
func TestDepth(t *testing.T) {
	r := rand.New(rand.NewSource(25))
	pick := func(l [][2]string) [2]string { return l[r.Intn(len(l))] }
	for range 4000 {
		blocks, expressions := r.Intn(9), r.Intn(12)
		var parts [][2]string
		for range expressions {
			parts = append(parts, pick(inExpressions))
		}
		for range 1 + blocks {
			parts = append(parts, pick(inBlocks))
		}
		statement := pick(inStatements)
		if expressions+blocks+2 <= 10 {
			// What is wrong in some of the texts matters only where they are left out.
			statement = [2]string{"x = ", ";"}
		}
		parts[expressions] = statement
		source, offsets := nested("len", append(parts, pick(inPrograms))...)
		var want []api.Diag
		if over := expressions + blocks + 2 - 10; over > 0 {
			want = []api.Diag{{Err: api.ErrDeep, At: offsets[over] + firstInside(parts[over-1][0])}}
		}
		expectDiags(t, source, want)
	}
}

// P3.8: parentheses, signs ~ and blocks.
func TestDeepest(t *testing.T) {
	for n := range 30 {
		for i, part := range inExpressions {
			var want []api.Diag
			if n > 8 {
				// The whole block has the depth 1, and the first part the depth 2.
				want = []api.Diag{{Err: api.ErrDeep, At: 12 + 8*len(part[0]) + firstInside(part[0])}}
			}
			expectDiags(t, "parse { x = "+strings.Repeat(part[0], n)+"len"+strings.Repeat(part[1], n)+"; }", want)
			if i > 2 {
				continue
			}
			if want != nil {
				want[0].At += 12
			}
			expectDiags(t, "func f() u8 { return    "+strings.Repeat(part[0], n)+"a"+strings.Repeat(part[1], n)+"; } parse { }", slices.Clone(want))
		}
		for _, part := range inBlocks[:3] {
			var want []api.Diag
			if n > 9 {
				want = []api.Diag{{Err: api.ErrDeep, At: 8 + 9*len(part[0]) + firstInside(part[0])}}
			}
			expectDiags(t, "parse { "+strings.Repeat(part[0], n)+"accept;"+strings.Repeat(part[1], n)+" }", want)
		}
	}
}

// P3.8: valid trees are as deep as sources may be.
func TestDeepTrees(t *testing.T) {
	for n := range 30 {
		x := api.Node{Kind: api.NodeLen}
		for range n {
			x = api.Node{Kind: api.NodeNot, Kids: []api.Node{x}}
		}
		program := func(s api.Node) api.Node {
			return api.Node{Kind: api.NodeProgram, Kids: []api.Node{{Kind: api.NodeBlock, Kids: []api.Node{s}}}}
		}
		if got := parser.Valid(program(api.Node{Kind: api.NodeReturn, Kids: []api.Node{x}})); got != (n <= 8) {
			t.Errorf("%d signs ~: %v", n, got)
		}
		s := api.Node{Kind: api.NodeAccept}
		for range n {
			s = api.Node{Kind: api.NodeWhile, Kids: []api.Node{{Kind: api.NodeLen}, {Kind: api.NodeBlock, Kids: []api.Node{s}}}}
		}
		if got := parser.Valid(program(s)); got != (n <= 9) {
			t.Errorf("%d blocks: %v", n, got)
		}
	}
}
