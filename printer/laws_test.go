package printer_test

import (
	"math/rand"
	"regexp"
	"slices"
	"strings"
	"testing"

	"formfinder/api"
	"formfinder/lexer"
	"formfinder/parser"
	"formfinder/printer"
)

// others are nodes with one change.
func others(n api.Node) []api.Node {
	var l []api.Node
	change := func(change func(m *api.Node)) {
		m := n
		m.Kids = slices.Clone(n.Kids)
		change(&m)
		l = append(l, m)
	}
	for kind := -1; kind < 33; kind++ {
		change(func(m *api.Node) { m.Kind = kind })
	}
	for _, name := range []string{"", "a", "z", "in", "len", "u8", "u65", "sext", "A", "a b", "abcdefghijkl", "abcdefghijklm"} {
		change(func(m *api.Node) { m.Name = name })
		change(func(m *api.Node) { m.Part = name })
		change(func(m *api.Node) { m.Name, m.Part = m.Part, m.Name })
	}
	for n := range uint64(20) {
		change(func(m *api.Node) { m.N = n })
		change(func(m *api.Node) { m.W = int(n)*4 - 1 })
	}
	added := []api.Node{{Kind: api.NodeLen}, {Kind: api.NodeAccept}, {Kind: api.NodeBlock}, {Kind: api.NodeParam, Name: "a", W: 8}, {Kind: api.NodeField, Name: "a", W: 8}, {Kind: api.NodeStruct, Name: "a", Kids: []api.Node{{Kind: api.NodeField, Name: "a", W: 8}}}}
	for i := range len(n.Kids) + 1 {
		for _, kid := range append(added, n.Kids...) {
			change(func(m *api.Node) { m.Kids = slices.Insert(m.Kids, i, kid) })
			change(func(m *api.Node) { m.Kids = append(m.Kids[:i], kid) })
		}
		change(func(m *api.Node) { m.Kids = m.Kids[:i] })
		change(func(m *api.Node) { m.Kids = m.Kids[i:] })
		change(func(m *api.Node) { slices.Reverse(m.Kids[:i]) })
	}
	return l
}

// P4.2: the trees of sources, and those of others with a change.
func TestInverse(t *testing.T) {
	count := 0
	expectInverse := func(n api.Node) {
		t.Helper()
		text := textOf(t, n)
		if _, e, _ := lexer.Lex(text); e != api.OK {
			return
		}
		count++
		if !same(treeOf(t, text), n) {
			t.Fatalf("%q is another tree than\n%v", text, n)
		}
	}
	for _, text := range samples(3, 2000) {
		expectInverse(treeOf(t, text))
	}
	for _, text := range append(samples(4, 30), full) {
		for _, n := range altered(treeOf(t, text), others) {
			if parser.Valid(n) {
				expectInverse(n)
			}
		}
	}
	if count < 10000 {
		t.Error("few trees:", count)
	}
}

// wordsOf are the texts of the tokens of a text without comments.
func wordsOf(t *testing.T, text string) []string {
	t.Helper()
	tokens, e, at := lexer.Lex(text)
	if e != api.OK {
		t.Fatalf("%q: error %d at %d", text, e, at)
	}
	end := len(text)
	var l []string
	for _, token := range slices.Backward(tokens) {
		l = append(l, strings.TrimRight(text[token.At:end], " \n"))
		end = token.At
	}
	slices.Reverse(l)
	return l
}

// spread is a source of words, with a gap before each one, and one at the end.
func spread(words []string, gap func() string) string {
	var b strings.Builder
	for i, word := range words {
		between := gap()
		if between == "" && i > 0 && regexp.MustCompile(`[a-z0-9]$`).MatchString(words[i-1]) && regexp.MustCompile(`^[a-z0-9]`).MatchString(word) {
			between = " "
		}
		b.WriteString(between + word)
	}
	return b.String() + gap()
}

// P4.3: gaps, comments, and printing once more do not matter.
func TestCanonical(t *testing.T) {
	r := rand.New(rand.NewSource(5))
	gaps := []string{"", " ", "\n", "\t", "    ", " \n\n", "# a comment }\n", "\t# one\n# more \xff;\n  "}
	for _, want := range samples(5, 1500) {
		words := wordsOf(t, want)
		for _, gap := range []func() string{
			func() string { return "" },
			func() string { return " " },
			func() string { return "\n" },
			func() string { return gaps[r.Intn(4)] },
			func() string { return gaps[r.Intn(len(gaps))] },
		} {
			source := spread(words, gap)
			if len(source) > 4000 {
				continue
			}
			text := textOf(t, treeOf(t, source))
			if text != want {
				t.Fatalf("%q:\n%s; want\n%s", source, text, want)
			}
			if again := textOf(t, treeOf(t, text)); again != text {
				t.Fatalf("%q is printed as\n%q", text, again)
			}
		}
	}
}

// P4.3, D1: a source can be shorter than its text, which may then be too long.
func TestShortSources(t *testing.T) {
	source := "parse{" + strings.Repeat("accept;", 398) + "a=b;}"
	text := textOf(t, treeOf(t, source))
	if len(text) != 10+3980+9 || !strings.HasSuffix(text, "\n  a = b;\n}\n") {
		t.Errorf("%d bytes", len(text))
	}
	expectError(t, treeOf(t, strings.Replace(source, "{", "{accept;", 1)), api.ErrLimit)
}

// P4.4: no two trees that differ in a place have the same text.
func TestDifferentTrees(t *testing.T) {
	seen := map[string]api.Node{}
	expectOwn := func(n api.Node) {
		t.Helper()
		text, e := printer.Source(n)
		if e != api.OK {
			return
		}
		if other, found := seen[text]; found && !same(other, n) {
			t.Fatalf("%q is the text of\n%v and\n%v", text, n, other)
		}
		seen[text] = n
	}
	for _, text := range samples(6, 40) {
		n := treeOf(t, text)
		expectOwn(n)
		for _, m := range altered(n, others) {
			expectOwn(m)
		}
	}
	// More tokens than a source can have.
	call := api.Node{Kind: api.NodeCall, Name: "f", Kids: slices.Repeat(kids(a), 1000)}
	for i := range call.Kids {
		call.Kids = slices.Clone(call.Kids)
		call.Kids[i] = b
		expectOwn(inParse(api.Node{Kind: api.NodeReturn, Kids: kids(call)}))
		expectOwn(inParse(api.Node{Kind: api.NodeReturn, Kids: kids(api.Node{Kind: api.NodeCall, Name: "f", Kids: call.Kids[i:]})}))
	}
	if len(seen) < 10000 {
		t.Error("few texts:", len(seen))
	}
}

// P4.5
func TestWithoutFirstItem(t *testing.T) {
	count := 0
	for _, text := range samples(7, 1500) {
		n := treeOf(t, text)
		for len(n.Kids) > 1 {
			count++
			rest := n
			rest.Kids = n.Kids[1:]
			alone := n
			alone.Kids = kids(n.Kids[0], block())
			lines, found := strings.CutSuffix(textOf(t, n), textOf(t, rest))
			if !found || lines+"parse {\n}\n" != textOf(t, alone) {
				t.Fatalf("%q: the first item has the lines\n%q", textOf(t, n), lines)
			}
			n = rest
		}
	}
	if count < 1000 {
		t.Error("few items:", count)
	}
}

// expectLines fails the test unless the lines of a text begin with two blanks for each brace that is open there, without two blanks next to each other otherwise.
func expectLines(t *testing.T, text string) {
	t.Helper()
	lines, ended := strings.CutSuffix(text, "\n")
	open := 0
	for _, line := range strings.Split(lines, "\n") {
		rest := strings.TrimLeft(line, " ")
		closes := strings.HasPrefix(rest, "}")
		if closes {
			open--
		}
		if line != strings.Repeat("  ", open)+rest || rest == "" || strings.Contains(rest, "  ") || strings.HasSuffix(rest, " ") || strings.ContainsAny(rest, "\t\r") {
			t.Fatalf("%q: the line %q", text, line)
		}
		if closes {
			rest = rest[1:]
		}
		open += strings.Count(rest, "{") - strings.Count(rest, "}")
	}
	if open != 0 || !ended {
		t.Fatalf("%q: %d braces are open at its end", text, open)
	}
}

// linesIn is how many lines there are for the statements below a node, and for blocks that end there.
func linesIn(n api.Node) int {
	many := 0
	if n.Kind >= api.NodeBlock && n.Kind <= api.NodeReturn {
		many = 1
	}
	for _, kid := range n.Kids {
		many += linesIn(kid)
	}
	return many
}

// P4.6, P4.7: beside statements and blocks, each item has a line, and so has parse.
func TestLines(t *testing.T) {
	expect := func(n api.Node) {
		t.Helper()
		text := textOf(t, n)
		expectLines(t, text)
		if got, want := strings.Count(text, "\n"), len(n.Kids)+linesIn(n); got != want {
			t.Fatalf("%q: %d lines; want %d", text, got, want)
		}
	}
	for _, text := range samples(8, 3000) {
		expect(treeOf(t, text))
	}
	for _, n := range altered(treeOf(t, full), others) {
		if parser.Valid(n) {
			expect(n)
		}
	}
}
