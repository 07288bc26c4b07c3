package parser_test

import (
	"math"
	"math/rand"
	"slices"
	"strings"
	"testing"

	"formfinder/api"
	"formfinder/lexer"
	"formfinder/parser"
)

// clone is a copy of a node that shares no memory with it.
func clone(n api.Node) api.Node {
	kids := n.Kids
	n.Kids = nil
	for _, k := range kids {
		n.Kids = append(n.Kids, clone(k))
	}
	return n
}

// nodesOf are pointers to a node and to all below it.
func nodesOf(n *api.Node) []*api.Node {
	l := []*api.Node{n}
	for i := range n.Kids {
		l = append(l, nodesOf(&n.Kids[i])...)
	}
	return l
}

// changed calls a function with a copy of a tree, and each of its nodes in turn.
func changed(n api.Node, change func(tree, at *api.Node)) {
	for i := range nodesOf(&n) {
		tree := clone(n)
		change(&tree, nodesOf(&tree)[i])
	}
}

// expectValid fails the test unless Valid says so.
func expectValid(t *testing.T, n api.Node, want bool) {
	t.Helper()
	if got := parser.Valid(n); got != want {
		t.Fatalf("%v: %v", n, got)
	}
}

// Kinds by the fields that they use.
var (
	withName  = []int{api.NodeStruct, api.NodeField, api.NodeFunc, api.NodeParam, api.NodeLet, api.NodeSet, api.NodePut, api.NodePutPart, api.NodeNew, api.NodeMake, api.NodeFree, api.NodeSame, api.NodeEmit, api.NodeVar, api.NodeCell, api.NodePart, api.NodeCall}
	withPart  = []int{api.NodePutPart, api.NodeMake, api.NodeSame, api.NodePart}
	withN     = []int{api.NodeReject, api.NodeNumber, api.NodeBin}
	withWidth = []int{api.NodeField, api.NodeFunc, api.NodeParam, api.NodeNew, api.NodeNumber, api.NodeCast, api.NodeSext}
)

// P3.1, C2: At does not matter.
func TestValidTrees(t *testing.T) {
	n := full(t)
	seen := map[int]bool{}
	for _, at := range []int{0, -1, 5, math.MaxInt, math.MinInt} {
		changed(n, func(tree, node *api.Node) {
			node.At = at
			seen[node.Kind] = true
			expectValid(t, *tree, true)
		})
	}
	if len(seen) != 31 {
		t.Errorf("%d kinds of nodes", len(seen))
	}
	for _, n := range samples(30, 3000) {
		expectValid(t, n, true)
	}
}

// P3.1, C2: only programs are trees of sources.
func TestValidRoots(t *testing.T) {
	n := full(t)
	for _, node := range nodesOf(&n) {
		expectValid(t, *node, node.Kind == api.NodeProgram)
	}
	for _, kind := range []int{math.MinInt, -1, 0, 1, 6, 31, 32, 33, 1000, math.MaxInt} {
		expectValid(t, api.Node{Kind: kind}, false)
		expectValid(t, api.Node{Kind: kind, Kids: []api.Node{{Kind: api.NodeBlock}}}, kind == api.NodeProgram)
	}
}

// P3.1, C2: names
func TestValidNames(t *testing.T) {
	good := []string{"a", "z9", "u0", "u65", "u08", "u640", "u", "abcdefghijkl", "u12345678901", "lets", "i", "struct1", "name", "number", "type", "end"}
	bad := append([]string{"", "A", "aB", "_", "a_", "9", "9a", "a b", " a", "a ", "a#", "a\n", "é", "aé", "a\x00", "\xff", "a;", "abcdefghijklm", "u1", "u8", "u64", "a.b", "~a", "+", "{", strings.Repeat("a", 5000)}, keyWords...)
	changed(full(t), func(tree, node *api.Node) {
		for _, name := range good {
			node.Name = name
			expectValid(t, *tree, slices.Contains(withName, node.Kind))
		}
		for _, name := range bad {
			node.Name = name
			expectValid(t, *tree, name == "" && !slices.Contains(withName, node.Kind))
		}
	})
	changed(full(t), func(tree, node *api.Node) {
		for _, name := range good {
			node.Part = name
			expectValid(t, *tree, slices.Contains(withPart, node.Kind))
		}
		for _, name := range bad {
			node.Part = name
			expectValid(t, *tree, name == "" && !slices.Contains(withPart, node.Kind))
		}
	})
	for w := range 70 {
		name := typeOf(w)
		n := api.Node{Kind: api.NodeProgram, Kids: []api.Node{{Kind: api.NodeBlock, Kids: []api.Node{{Kind: api.NodeFree, Name: name}}}}}
		expectValid(t, n, w == 0 || w > 64)
	}
}

// P3.1, C2: widths and numbers
func TestValidNumbers(t *testing.T) {
	changed(full(t), func(tree, node *api.Node) {
		for _, w := range []int{math.MinInt, -8, -1, 0, 1, 2, 8, 63, 64, 65, 66, 256, math.MaxInt} {
			node.W = w
			if slices.Contains(withWidth, node.Kind) {
				expectValid(t, *tree, 1 <= w && w <= 64)
			} else {
				expectValid(t, *tree, w == 0)
			}
		}
	})
	changed(full(t), func(tree, node *api.Node) {
		for _, n := range []uint64{0, 1, 2, 11, 16, 17, 18, 255, 256, 1 << 32, 1<<32 + 1, 1 << 63, 1<<64 - 1} {
			node.N = n
			switch {
			case node.Kind == api.NodeBin:
				expectValid(t, *tree, 1 <= n && n <= 17)
			case slices.Contains(withN, node.Kind):
				expectValid(t, *tree, true)
			default:
				expectValid(t, *tree, n == 0)
			}
		}
	})
}

// kidsFit reports whether a node of a kind may have kids of these kinds: NodeLen stands for all expressions, NodeAccept for all statements, and NodeStruct for all items.
func kidsFit(kind int, kids []int) bool {
	all := func(l []int, kind int) bool { return !slices.ContainsFunc(l, func(k int) bool { return k != kind }) }
	last := len(kids) - 1
	x := func(many int) bool { return len(kids) == many && all(kids, api.NodeLen) }
	switch kind {
	case api.NodeProgram:
		return last >= 0 && kids[last] == api.NodeBlock && all(kids[:last], api.NodeStruct)
	case api.NodeStruct:
		return last >= 0 && all(kids, api.NodeField)
	case api.NodeFunc:
		return last >= 0 && kids[last] == api.NodeBlock && all(kids[:last], api.NodeParam)
	case api.NodeBlock:
		return all(kids, api.NodeAccept)
	case api.NodeIf:
		return slices.Equal(kids, []int{api.NodeLen, api.NodeBlock}) || slices.Equal(kids, []int{api.NodeLen, api.NodeBlock, api.NodeBlock})
	case api.NodeWhile:
		return slices.Equal(kids, []int{api.NodeLen, api.NodeBlock})
	case api.NodePut, api.NodeBin:
		return x(2)
	case api.NodeLet, api.NodeSet, api.NodePutPart, api.NodeNew, api.NodeEmit, api.NodeReturn, api.NodeIn, api.NodeCell, api.NodeNot, api.NodeCast, api.NodeSext:
		return x(1)
	case api.NodeCall:
		return all(kids, api.NodeLen)
	}
	return len(kids) == 0
}

// listsOf are all lists of at most so many of these nodes.
func listsOf(nodes []api.Node, most int) [][]api.Node {
	lists := [][]api.Node{nil}
	for i := 0; len(lists[i]) < most; i++ {
		for _, n := range nodes {
			lists = append(lists, append(slices.Clone(lists[i]), n))
		}
	}
	return lists
}

// P3.1, C2: the kids of nodes, up to three of them, of all sorts, and up to five of the most frequent ones.
func TestValidKids(t *testing.T) {
	sorts := []api.Node{
		{Kind: api.NodeLen}, {Kind: api.NodeAccept}, {Kind: api.NodeBlock}, {Kind: api.NodeParam, Name: "a", W: 8}, {Kind: api.NodeField, Name: "a", W: 8},
		{Kind: api.NodeStruct, Name: "a", Kids: []api.Node{{Kind: api.NodeField, Name: "a", W: 8}}}, {Kind: api.NodeProgram, Kids: []api.Node{{Kind: api.NodeBlock}}}, {}, {Kind: 32}, {Kind: -1},
	}
	lists := append(listsOf(sorts, 3), listsOf(sorts[:3], 5)...)
	n := full(t)
	done := map[int]bool{}
	for i, original := range nodesOf(&n) {
		if done[original.Kind] {
			continue
		}
		done[original.Kind] = true
		tree := clone(n)
		node := nodesOf(&tree)[i]
		for _, l := range lists {
			node.Kids = l
			var kinds []int
			for _, k := range l {
				kinds = append(kinds, k.Kind)
			}
			expectValid(t, tree, kidsFit(node.Kind, kinds))
		}
	}
}

// damagedTree is a tree with a change somewhere.
func damagedTree(r *rand.Rand, n api.Node) api.Node {
	n = clone(n)
	l := nodesOf(&n)
	x, y := l[r.Intn(len(l))], clone(*l[r.Intn(len(l))])
	names := []string{"", "a", "u8", "u65", "if", "A", "a b", "x = a; let y", "abcdefghijklm", "a)", "7", "len", "# ", "a # b\n"}
	switch r.Intn(9) {
	case 0:
		x.Kind = r.Intn(34) - 1
	case 1:
		x.Name = names[r.Intn(len(names))]
	case 2:
		x.Part = names[r.Intn(len(names))]
	case 3:
		x.N = []uint64{0, 1, 17, 18, 1<<64 - 1}[r.Intn(5)]
	case 4:
		x.W = []int{-1, 0, 1, 64, 65}[r.Intn(5)]
	case 5:
		x.At = r.Intn(100) - 50
	case 6:
		*x = y
	case 7:
		if len(x.Kids) > 0 {
			i := r.Intn(len(x.Kids))
			x.Kids = slices.Delete(x.Kids, i, i+1)
		}
	case 8:
		x.Kids = slices.Insert(x.Kids, r.Intn(len(x.Kids)+1), y)
	}
	return n
}

// P3.1, C2, P3.4: a tree is valid exactly if what is written for it is parsed to it.
func TestValidDamagedTrees(t *testing.T) {
	r := rand.New(rand.NewSource(31))
	count := map[bool]int{}
	for _, n := range append(samples(31, 3000), full(t)) {
		for range 12 {
			n = damagedTree(r, n)
			text := textOfTree(n)
			if _, e, _ := lexer.Lex(text); e == api.ErrLimit {
				break
			}
			got, diags := parser.Parse(text)
			want := len(diags) == 0 && equal(parser.Strip(got), parser.Strip(n))
			count[want]++
			expectValid(t, n, want)
			if !want {
				break
			}
		}
	}
	if count[true] < 500 || count[false] < 500 {
		t.Error("few trees of a sort:", count)
	}
}

// P3.1, C2: the source of a valid tree may be too long.
func TestValidLongTrees(t *testing.T) {
	accept := api.Node{Kind: api.NodeAccept}
	n := api.Node{Kind: api.NodeProgram, Kids: []api.Node{{Kind: api.NodeBlock, Kids: slices.Repeat([]api.Node{accept}, 100000)}}}
	expectValid(t, n, true)
	n.Kids[0].Kids[99999] = api.Node{Kind: api.NodeLen}
	expectValid(t, n, false)
	call := api.Node{Kind: api.NodeCall, Name: "f", Kids: slices.Repeat([]api.Node{{Kind: api.NodeLen}}, 10000)}
	n.Kids[0].Kids = []api.Node{{Kind: api.NodeReturn, Kids: []api.Node{call}}}
	expectValid(t, n, true)
}

// P3.1, C3
func TestStrip(t *testing.T) {
	for _, n := range append(samples(32, 500), full(t), api.Node{}, api.Node{At: 7}, api.Node{Kind: -5, Name: "A b", Part: "\xff", N: 1 << 63, W: -3, At: -1, Kids: []api.Node{{At: 9, Kids: []api.Node{{Kind: 99, At: 1, W: 5}, {At: math.MinInt}}}}}) {
		for i, node := range nodesOf(&n) {
			node.At += 3*i + 1
		}
		want := clone(n)
		for _, node := range nodesOf(&want) {
			node.At = 0
		}
		before := clone(n)
		got := parser.Strip(n)
		if !equal(got, want) {
			t.Fatalf("%v: %v; want %v", n, got, want)
		}
		for _, node := range nodesOf(&got) {
			*node = api.Node{}
		}
		if !equal(n, before) {
			t.Fatal("the argument shares memory with the result")
		}
	}
}

// chain is a node below as many others as a number says, each with an offset.
func chain(above int) api.Node {
	n := api.Node{Kind: api.NodeLen, At: 5}
	for i := range above {
		n = api.Node{Kind: api.NodeNot, At: i + 1, Kids: []api.Node{n}}
	}
	return n
}

// P3.1, C3: a node may be below 1000 others.
func TestStripDeep(t *testing.T) {
	for _, above := range []int{0, 1, 10, 11, 999, 1000} {
		n := parser.Strip(chain(above))
		for range above {
			if n.Kind != api.NodeNot || n.At != 0 || len(n.Kids) != 1 {
				t.Fatalf("%d: %v", above, n.Kind)
			}
			n = n.Kids[0]
		}
		if !equal(n, api.Node{Kind: api.NodeLen}) {
			t.Fatalf("%d: %v", above, n)
		}
	}
}

// P1: nodes that are deeper, or contain themselves, are no trees, and do not keep Strip and Valid from an end.
func TestEndlessNodes(t *testing.T) {
	for _, above := range []int{1001, 5000, 1000000} {
		parser.Strip(chain(above))
		expectValid(t, chain(above), false)
	}
	for kind := range 33 {
		kids := slices.Repeat([]api.Node{{Kind: kind, Name: "a", W: 8}}, 3)
		for i := range kids {
			kids[i].Kids = kids
		}
		parser.Strip(kids[0])
		expectValid(t, kids[0], false)
	}
	statements := []api.Node{{Kind: api.NodeAccept}, {Kind: api.NodeIf}, {Kind: api.NodeIf}}
	for i := 1; i < 3; i++ {
		statements[i].Kids = []api.Node{{Kind: api.NodeLen}, {Kind: api.NodeBlock, Kids: statements}}
	}
	n := api.Node{Kind: api.NodeProgram, Kids: []api.Node{{Kind: api.NodeBlock, Kids: statements}}}
	parser.Strip(n)
	expectValid(t, n, false)
}
